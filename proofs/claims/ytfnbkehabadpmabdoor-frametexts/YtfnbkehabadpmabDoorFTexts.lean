/- FrameTexts: unlike frames have unlike texts. No condition but the row's own: the table of widths holds what the program's text lays. -/
import Derived.Test.YtfnbkehabadpmabDoorGl
import Derived.Test.YtfnbkehabadpmabDoorFm4
import Derived.Test.YtfnbkehabadpmabDoorLi
namespace Go.Proofs.YtfnbkehabadpmabDoor.frameTexts
open Go.ChangeShapes Go.WideShapes Go.ChangeAt Go.RowKit
open Go.ChangeMaps (open_string shut_string)
set_option linter.unusedVariables false
theorem ite_ff {α : Type} {y s : Bool} {n m : Nat} {d e : ByteArray} {A B : α} (h : ¬ (false = y ∧ n = m ∧ false = s ∧ d = e)) : (if y = true then B else (if (n : Int) = (m : Int) then (if s = true then B else (if d.toList = e.toList then A else B)) else B)) = B := by
  have h' : y = false → n = m → s = false → d.toList = e.toList → False := fun p q r t => h ⟨p.symm, q, r.symm, by
    rw [ByteArray.toList_eq, ByteArray.toList_eq] at t
    apply ByteArray.ext
    exact Array.toList_inj.1 t⟩
  by_cases c2 : (n : Int) = (m : Int)
  · by_cases c4 : d.toList = e.toList
    · rw [if_pos c2, if_pos c4]
      have h2 := fun p r => h' p (by omega) r c4
      cases y <;> cases s <;> simp at h2 ⊢
    · rw [if_pos c2, if_neg c4]
      cases y <;> cases s <;> rfl
  · rw [if_neg c2]
    cases y <;> rfl
theorem ite_ft {α : Type} {y s : Bool} {n m : Nat} {d e : ByteArray} {A B : α} (h : ¬ (false = y ∧ n = m ∧ true = s ∧ d = e)) : (if y = true then B else (if (n : Int) = (m : Int) then (if s = false then B else (if d.toList = e.toList then A else B)) else B)) = B := by
  have h' : y = false → n = m → s = true → d.toList = e.toList → False := fun p q r t => h ⟨p.symm, q, r.symm, by
    rw [ByteArray.toList_eq, ByteArray.toList_eq] at t
    apply ByteArray.ext
    exact Array.toList_inj.1 t⟩
  by_cases c2 : (n : Int) = (m : Int)
  · by_cases c4 : d.toList = e.toList
    · rw [if_pos c2, if_pos c4]
      have h2 := fun p r => h' p (by omega) r c4
      cases y <;> cases s <;> simp at h2 ⊢
    · rw [if_pos c2, if_neg c4]
      cases y <;> cases s <;> rfl
  · rw [if_neg c2]
    cases y <;> rfl
theorem ite_tf {α : Type} {y s : Bool} {n m : Nat} {d e : ByteArray} {A B : α} (h : ¬ (true = y ∧ n = m ∧ false = s ∧ d = e)) : (if y = false then B else (if (n : Int) = (m : Int) then (if s = true then B else (if d.toList = e.toList then A else B)) else B)) = B := by
  have h' : y = true → n = m → s = false → d.toList = e.toList → False := fun p q r t => h ⟨p.symm, q, r.symm, by
    rw [ByteArray.toList_eq, ByteArray.toList_eq] at t
    apply ByteArray.ext
    exact Array.toList_inj.1 t⟩
  by_cases c2 : (n : Int) = (m : Int)
  · by_cases c4 : d.toList = e.toList
    · rw [if_pos c2, if_pos c4]
      have h2 := fun p r => h' p (by omega) r c4
      cases y <;> cases s <;> simp at h2 ⊢
    · rw [if_pos c2, if_neg c4]
      cases y <;> cases s <;> rfl
  · rw [if_neg c2]
    cases y <;> rfl
theorem ite_tt {α : Type} {y s : Bool} {n m : Nat} {d e : ByteArray} {A B : α} (h : ¬ (true = y ∧ n = m ∧ true = s ∧ d = e)) : (if y = false then B else (if (n : Int) = (m : Int) then (if s = false then B else (if d.toList = e.toList then A else B)) else B)) = B := by
  have h' : y = true → n = m → s = true → d.toList = e.toList → False := fun p q r t => h ⟨p.symm, q, r.symm, by
    rw [ByteArray.toList_eq, ByteArray.toList_eq] at t
    apply ByteArray.ext
    exact Array.toList_inj.1 t⟩
  by_cases c2 : (n : Int) = (m : Int)
  · by_cases c4 : d.toList = e.toList
    · rw [if_pos c2, if_pos c4]
      have h2 := fun p r => h' p (by omega) r c4
      cases y <;> cases s <;> simp at h2 ⊢
    · rw [if_pos c2, if_neg c4]
      cases y <;> cases s <;> rfl
  · rw [if_neg c2]
    cases y <;> rfl
theorem toList_ne {a b : ByteArray} (h : a ≠ b) : (a.toList == b.toList) = false := by
  rw [beq_eq_false_iff_ne]
  intro e
  apply h
  rw [ByteArray.toList_eq, ByteArray.toList_eq] at e
  apply ByteArray.ext
  exact Array.toList_inj.1 e
theorem data_inj {a b : ByteArray} (h : a.data.toList = b.data.toList) : a = b := by
  apply ByteArray.ext
  exact Array.toList_inj.1 h
theorem mark (x : Bool) (n : Nat) (r : Bool) (d : List UInt8) (W : World) (k : Int) (hk : k = (Fm.hexW x : Int)) :
    (Instr.index 9 (.string ⟨(Fm.text0 x n r d).toArray⟩) (.int .i64 k)).run Tryd.prog W = .ok (.int .u8 35) W := by
  have hl : Fm.hexW x < (ByteArray.mk (Fm.text0 x n r d).toArray).size := by rw [size_str, Fm.length_text0]; omega
  rw [run_idx (P := Tryd.prog) 9 Tryd.underlying9 ⟨(Fm.text0 x n r d).toArray⟩ (Fm.hexW x) k hk hl W]
  have h := Fm.mark_text0 x n r d
  have h2 : (ByteArray.mk (Fm.text0 x n r d).toArray)[Fm.hexW x] = 35 := by
    show (Fm.text0 x n r d).toArray[Fm.hexW x]'(by rw [size_str] at hl; simpa using hl) = 35
    rw [List.getElem_toArray]
    have h3 := List.getElem?_eq_some_iff.1 h
    exact h3.2
  rw [h2]
  rfl
theorem text_is {x : Bool} {n : Nat} {r : Bool} {d : ByteArray} (hi : Fm.isF x n r d.data.toList = true) (hn : n < 4294967296) (w : World) (hT : Tab w) :
    Calls Tryd.prog 9 #[.agg #[.bool x, .int .u32 n, .bool r, .string d]] w fun e w' => e = .returned (.string ⟨(Fm.text0 x n r d.data.toList).toArray⟩) ∧ Below w.heap.size w w' := by
  have := fText_any x n r d w hT hn
  unfold Fm.text at this
  rw [if_pos hi] at this
  exact this
set_option maxRecDepth 100000 in
set_option maxHeartbeats 4000000 in
theorem walkN (x0 : Bool) (n0 : Nat) (r0 : Bool) (d0 : ByteArray) (h0 : n0 < 4294967296) (x1 : Bool) (n1 : Nat) (r1 : Bool) (d1 : ByteArray) (h1 : n1 < 4294967296) (W : World) (hT : Tab W) :
    Calls Tryd.prog 4 #[.agg #[.bool x0, .int .u32 n0, .bool r0, .string d0], .agg #[.bool x1, .int .u32 n1, .bool r1, .string d1]] W fun e w' => e = .returned (.bool true) ∧ Below W.heap.size W w' := by
  have HI0 : Hid (∀ w, Tab w → Calls Tryd.prog 8 #[.agg #[.bool x0, .int .u32 n0, .bool r0, .string d0]] w fun e w' => e = .returned (.bool (Fm.isF x0 n0 r0 d0.data.toList)) ∧ Below w.heap.size w w') := fun w hT => fIs_any x0 n0 r0 d0 w hT
  have HI1 : Hid (∀ w, Tab w → Calls Tryd.prog 8 #[.agg #[.bool x1, .int .u32 n1, .bool r1, .string d1]] w fun e w' => e = .returned (.bool (Fm.isF x1 n1 r1 d1.data.toList)) ∧ Below w.heap.size w w') := fun w hT => fIs_any x1 n1 r1 d1 w hT
  have HT : Hid (Tab _) := (hT.alloc (.cells #[.bool x0, .int .u32 n0, .bool r0, .string d0] 25)).alloc (.cells #[.bool x1, .int .u32 n1, .bool r1, .string d1] 25)
  have hA : Hid (Below W.heap.size W _) := ((Below.refl _ _).alloc (Nat.le_refl _) (.cells #[.bool x0, .int .u32 n0, .bool r0, .string d0] 25)).alloc (by simp) (.cells #[.bool x1, .int .u32 n1, .bool r1, .string d1] 25)
  have La : Hid (Lies _ _ _ _ _ _) := (Lies.new W x0 n0 r0 d0).alloc (.cells #[.bool x1, .int .u32 n1, .bool r1, .string d1] 25)
  have Lb : Hid (Lies _ _ _ _ _ _) := Lies.new1 W (.cells #[.bool x0, .int .u32 n0, .bool r0, .string d0] 25) x1 n1 r1 d1
  clear hT
  cases f0 : decide ((d0.size : Int) ≤ 20)
  case false =>
    go_enter Tryd.func4, Tryd.ntmps4
    go_wp2_with (first | (go_at_call 5; refine (known3_any _ HT.out).mono ?_; rintro e w' ⟨rfl, hb'⟩; replace La : Hid (Lies _ _ _ _ _ _) := (by first | exact Lies.on La.out hb' | exact Lies.on (Lies.alloc La.out _) hb'); replace Lb : Hid (Lies _ _ _ _ _ _) := (by first | exact Lies.on Lb.out hb' | exact Lies.on (Lies.alloc Lb.out _) hb'); replace HT : Hid (Tab _) := (by first | exact HT.out.below hb' | exact (HT.out.alloc _).below hb'); replace hA : Hid (Below W.heap.size W _) := (by first | exact below_join hA.out hb' | exact below_join (hA.out.alloc hA.out.size _) hb'); (try clear La0 La1 La2 La3 LaL); have La0 := La.out.c0; have La1 := La.out.c1; have La2 := La.out.c2; have La3 := La.out.c3; have LaL := La.out.lt; (try clear Lb0 Lb1 Lb2 Lb3 LbL); have Lb0 := Lb.out.c0; have Lb1 := Lb.out.c1; have Lb2 := Lb.out.c2; have Lb3 := Lb.out.c3; have LbL := Lb.out.lt; clear hb') | (go_at_call 7; refine (few_any _ _ _ _ _).mono ?_; rintro e w' ⟨rfl, hb'⟩; replace La : Hid (Lies _ _ _ _ _ _) := (by first | exact Lies.on La.out hb' | exact Lies.on (Lies.alloc La.out _) hb'); replace Lb : Hid (Lies _ _ _ _ _ _) := (by first | exact Lies.on Lb.out hb' | exact Lies.on (Lies.alloc Lb.out _) hb'); replace HT : Hid (Tab _) := (by first | exact HT.out.below hb' | exact (HT.out.alloc _).below hb'); replace hA : Hid (Below W.heap.size W _) := (by first | exact below_join hA.out hb' | exact below_join (hA.out.alloc hA.out.size _) hb'); (try clear La0 La1 La2 La3 LaL); have La0 := La.out.c0; have La1 := La.out.c1; have La2 := La.out.c2; have La3 := La.out.c3; have LaL := La.out.lt; (try clear Lb0 Lb1 Lb2 Lb3 LbL); have Lb0 := Lb.out.c0; have Lb1 := Lb.out.c1; have Lb2 := Lb.out.c2; have Lb3 := Lb.out.c3; have LbL := Lb.out.lt; clear hb') | (go_at_call_of 8 (Value.string d0); refine (HI0.out _ HT.out).mono ?_; rintro e w' ⟨rfl, hb'⟩; replace La : Hid (Lies _ _ _ _ _ _) := (by first | exact Lies.on La.out hb' | exact Lies.on (Lies.alloc La.out _) hb'); replace Lb : Hid (Lies _ _ _ _ _ _) := (by first | exact Lies.on Lb.out hb' | exact Lies.on (Lies.alloc Lb.out _) hb'); replace HT : Hid (Tab _) := (by first | exact HT.out.below hb' | exact (HT.out.alloc _).below hb'); replace hA : Hid (Below W.heap.size W _) := (by first | exact below_join hA.out hb' | exact below_join (hA.out.alloc hA.out.size _) hb'); (try clear La0 La1 La2 La3 LaL); have La0 := La.out.c0; have La1 := La.out.c1; have La2 := La.out.c2; have La3 := La.out.c3; have LaL := La.out.lt; (try clear Lb0 Lb1 Lb2 Lb3 LbL); have Lb0 := Lb.out.c0; have Lb1 := Lb.out.c1; have Lb2 := Lb.out.c2; have Lb3 := Lb.out.c3; have LbL := Lb.out.lt; clear hb') | (go_at_call_of 8 (Value.string d1); refine (HI1.out _ HT.out).mono ?_; rintro e w' ⟨rfl, hb'⟩; replace La : Hid (Lies _ _ _ _ _ _) := (by first | exact Lies.on La.out hb' | exact Lies.on (Lies.alloc La.out _) hb'); replace Lb : Hid (Lies _ _ _ _ _ _) := (by first | exact Lies.on Lb.out hb' | exact Lies.on (Lies.alloc Lb.out _) hb'); replace HT : Hid (Tab _) := (by first | exact HT.out.below hb' | exact (HT.out.alloc _).below hb'); replace hA : Hid (Below W.heap.size W _) := (by first | exact below_join hA.out hb' | exact below_join (hA.out.alloc hA.out.size _) hb'); (try clear La0 La1 La2 La3 LaL); have La0 := La.out.c0; have La1 := La.out.c1; have La2 := La.out.c2; have La3 := La.out.c3; have LaL := La.out.lt; (try clear Lb0 Lb1 Lb2 Lb3 LbL); have Lb0 := Lb.out.c0; have Lb1 := Lb.out.c1; have Lb2 := Lb.out.c2; have Lb3 := Lb.out.c3; have LbL := Lb.out.lt; clear hb'))
    go_ret
    exact ⟨rfl, hA.out⟩
  cases f1 : decide ((d1.size : Int) ≤ 20)
  case false =>
    go_enter Tryd.func4, Tryd.ntmps4
    go_wp2_with (first | (go_at_call 5; refine (known3_any _ HT.out).mono ?_; rintro e w' ⟨rfl, hb'⟩; replace La : Hid (Lies _ _ _ _ _ _) := (by first | exact Lies.on La.out hb' | exact Lies.on (Lies.alloc La.out _) hb'); replace Lb : Hid (Lies _ _ _ _ _ _) := (by first | exact Lies.on Lb.out hb' | exact Lies.on (Lies.alloc Lb.out _) hb'); replace HT : Hid (Tab _) := (by first | exact HT.out.below hb' | exact (HT.out.alloc _).below hb'); replace hA : Hid (Below W.heap.size W _) := (by first | exact below_join hA.out hb' | exact below_join (hA.out.alloc hA.out.size _) hb'); (try clear La0 La1 La2 La3 LaL); have La0 := La.out.c0; have La1 := La.out.c1; have La2 := La.out.c2; have La3 := La.out.c3; have LaL := La.out.lt; (try clear Lb0 Lb1 Lb2 Lb3 LbL); have Lb0 := Lb.out.c0; have Lb1 := Lb.out.c1; have Lb2 := Lb.out.c2; have Lb3 := Lb.out.c3; have LbL := Lb.out.lt; clear hb') | (go_at_call 7; refine (few_any _ _ _ _ _).mono ?_; rintro e w' ⟨rfl, hb'⟩; replace La : Hid (Lies _ _ _ _ _ _) := (by first | exact Lies.on La.out hb' | exact Lies.on (Lies.alloc La.out _) hb'); replace Lb : Hid (Lies _ _ _ _ _ _) := (by first | exact Lies.on Lb.out hb' | exact Lies.on (Lies.alloc Lb.out _) hb'); replace HT : Hid (Tab _) := (by first | exact HT.out.below hb' | exact (HT.out.alloc _).below hb'); replace hA : Hid (Below W.heap.size W _) := (by first | exact below_join hA.out hb' | exact below_join (hA.out.alloc hA.out.size _) hb'); (try clear La0 La1 La2 La3 LaL); have La0 := La.out.c0; have La1 := La.out.c1; have La2 := La.out.c2; have La3 := La.out.c3; have LaL := La.out.lt; (try clear Lb0 Lb1 Lb2 Lb3 LbL); have Lb0 := Lb.out.c0; have Lb1 := Lb.out.c1; have Lb2 := Lb.out.c2; have Lb3 := Lb.out.c3; have LbL := Lb.out.lt; clear hb') | (go_at_call_of 8 (Value.string d0); refine (HI0.out _ HT.out).mono ?_; rintro e w' ⟨rfl, hb'⟩; replace La : Hid (Lies _ _ _ _ _ _) := (by first | exact Lies.on La.out hb' | exact Lies.on (Lies.alloc La.out _) hb'); replace Lb : Hid (Lies _ _ _ _ _ _) := (by first | exact Lies.on Lb.out hb' | exact Lies.on (Lies.alloc Lb.out _) hb'); replace HT : Hid (Tab _) := (by first | exact HT.out.below hb' | exact (HT.out.alloc _).below hb'); replace hA : Hid (Below W.heap.size W _) := (by first | exact below_join hA.out hb' | exact below_join (hA.out.alloc hA.out.size _) hb'); (try clear La0 La1 La2 La3 LaL); have La0 := La.out.c0; have La1 := La.out.c1; have La2 := La.out.c2; have La3 := La.out.c3; have LaL := La.out.lt; (try clear Lb0 Lb1 Lb2 Lb3 LbL); have Lb0 := Lb.out.c0; have Lb1 := Lb.out.c1; have Lb2 := Lb.out.c2; have Lb3 := Lb.out.c3; have LbL := Lb.out.lt; clear hb') | (go_at_call_of 8 (Value.string d1); refine (HI1.out _ HT.out).mono ?_; rintro e w' ⟨rfl, hb'⟩; replace La : Hid (Lies _ _ _ _ _ _) := (by first | exact Lies.on La.out hb' | exact Lies.on (Lies.alloc La.out _) hb'); replace Lb : Hid (Lies _ _ _ _ _ _) := (by first | exact Lies.on Lb.out hb' | exact Lies.on (Lies.alloc Lb.out _) hb'); replace HT : Hid (Tab _) := (by first | exact HT.out.below hb' | exact (HT.out.alloc _).below hb'); replace hA : Hid (Below W.heap.size W _) := (by first | exact below_join hA.out hb' | exact below_join (hA.out.alloc hA.out.size _) hb'); (try clear La0 La1 La2 La3 LaL); have La0 := La.out.c0; have La1 := La.out.c1; have La2 := La.out.c2; have La3 := La.out.c3; have LaL := La.out.lt; (try clear Lb0 Lb1 Lb2 Lb3 LbL); have Lb0 := Lb.out.c0; have Lb1 := Lb.out.c1; have Lb2 := Lb.out.c2; have Lb3 := Lb.out.c3; have LbL := Lb.out.lt; clear hb'))
    go_ret
    exact ⟨rfl, hA.out⟩
  cases i0 : Fm.isF x0 n0 r0 d0.data.toList
  all_goals rw [i0] at HI0
  case false =>
    go_enter Tryd.func4, Tryd.ntmps4
    go_wp2_with (first | (go_at_call 5; refine (known3_any _ HT.out).mono ?_; rintro e w' ⟨rfl, hb'⟩; replace La : Hid (Lies _ _ _ _ _ _) := (by first | exact Lies.on La.out hb' | exact Lies.on (Lies.alloc La.out _) hb'); replace Lb : Hid (Lies _ _ _ _ _ _) := (by first | exact Lies.on Lb.out hb' | exact Lies.on (Lies.alloc Lb.out _) hb'); replace HT : Hid (Tab _) := (by first | exact HT.out.below hb' | exact (HT.out.alloc _).below hb'); replace hA : Hid (Below W.heap.size W _) := (by first | exact below_join hA.out hb' | exact below_join (hA.out.alloc hA.out.size _) hb'); (try clear La0 La1 La2 La3 LaL); have La0 := La.out.c0; have La1 := La.out.c1; have La2 := La.out.c2; have La3 := La.out.c3; have LaL := La.out.lt; (try clear Lb0 Lb1 Lb2 Lb3 LbL); have Lb0 := Lb.out.c0; have Lb1 := Lb.out.c1; have Lb2 := Lb.out.c2; have Lb3 := Lb.out.c3; have LbL := Lb.out.lt; clear hb') | (go_at_call 7; refine (few_any _ _ _ _ _).mono ?_; rintro e w' ⟨rfl, hb'⟩; replace La : Hid (Lies _ _ _ _ _ _) := (by first | exact Lies.on La.out hb' | exact Lies.on (Lies.alloc La.out _) hb'); replace Lb : Hid (Lies _ _ _ _ _ _) := (by first | exact Lies.on Lb.out hb' | exact Lies.on (Lies.alloc Lb.out _) hb'); replace HT : Hid (Tab _) := (by first | exact HT.out.below hb' | exact (HT.out.alloc _).below hb'); replace hA : Hid (Below W.heap.size W _) := (by first | exact below_join hA.out hb' | exact below_join (hA.out.alloc hA.out.size _) hb'); (try clear La0 La1 La2 La3 LaL); have La0 := La.out.c0; have La1 := La.out.c1; have La2 := La.out.c2; have La3 := La.out.c3; have LaL := La.out.lt; (try clear Lb0 Lb1 Lb2 Lb3 LbL); have Lb0 := Lb.out.c0; have Lb1 := Lb.out.c1; have Lb2 := Lb.out.c2; have Lb3 := Lb.out.c3; have LbL := Lb.out.lt; clear hb') | (go_at_call_of 8 (Value.string d0); refine (HI0.out _ HT.out).mono ?_; rintro e w' ⟨rfl, hb'⟩; replace La : Hid (Lies _ _ _ _ _ _) := (by first | exact Lies.on La.out hb' | exact Lies.on (Lies.alloc La.out _) hb'); replace Lb : Hid (Lies _ _ _ _ _ _) := (by first | exact Lies.on Lb.out hb' | exact Lies.on (Lies.alloc Lb.out _) hb'); replace HT : Hid (Tab _) := (by first | exact HT.out.below hb' | exact (HT.out.alloc _).below hb'); replace hA : Hid (Below W.heap.size W _) := (by first | exact below_join hA.out hb' | exact below_join (hA.out.alloc hA.out.size _) hb'); (try clear La0 La1 La2 La3 LaL); have La0 := La.out.c0; have La1 := La.out.c1; have La2 := La.out.c2; have La3 := La.out.c3; have LaL := La.out.lt; (try clear Lb0 Lb1 Lb2 Lb3 LbL); have Lb0 := Lb.out.c0; have Lb1 := Lb.out.c1; have Lb2 := Lb.out.c2; have Lb3 := Lb.out.c3; have LbL := Lb.out.lt; clear hb') | (go_at_call_of 8 (Value.string d1); refine (HI1.out _ HT.out).mono ?_; rintro e w' ⟨rfl, hb'⟩; replace La : Hid (Lies _ _ _ _ _ _) := (by first | exact Lies.on La.out hb' | exact Lies.on (Lies.alloc La.out _) hb'); replace Lb : Hid (Lies _ _ _ _ _ _) := (by first | exact Lies.on Lb.out hb' | exact Lies.on (Lies.alloc Lb.out _) hb'); replace HT : Hid (Tab _) := (by first | exact HT.out.below hb' | exact (HT.out.alloc _).below hb'); replace hA : Hid (Below W.heap.size W _) := (by first | exact below_join hA.out hb' | exact below_join (hA.out.alloc hA.out.size _) hb'); (try clear La0 La1 La2 La3 LaL); have La0 := La.out.c0; have La1 := La.out.c1; have La2 := La.out.c2; have La3 := La.out.c3; have LaL := La.out.lt; (try clear Lb0 Lb1 Lb2 Lb3 LbL); have Lb0 := Lb.out.c0; have Lb1 := Lb.out.c1; have Lb2 := Lb.out.c2; have Lb3 := Lb.out.c3; have LbL := Lb.out.lt; clear hb'))
    go_ret
    exact ⟨rfl, hA.out⟩
  cases i1 : Fm.isF x1 n1 r1 d1.data.toList
  all_goals rw [i1] at HI1
  case false =>
    go_enter Tryd.func4, Tryd.ntmps4
    go_wp2_with (first | (go_at_call 5; refine (known3_any _ HT.out).mono ?_; rintro e w' ⟨rfl, hb'⟩; replace La : Hid (Lies _ _ _ _ _ _) := (by first | exact Lies.on La.out hb' | exact Lies.on (Lies.alloc La.out _) hb'); replace Lb : Hid (Lies _ _ _ _ _ _) := (by first | exact Lies.on Lb.out hb' | exact Lies.on (Lies.alloc Lb.out _) hb'); replace HT : Hid (Tab _) := (by first | exact HT.out.below hb' | exact (HT.out.alloc _).below hb'); replace hA : Hid (Below W.heap.size W _) := (by first | exact below_join hA.out hb' | exact below_join (hA.out.alloc hA.out.size _) hb'); (try clear La0 La1 La2 La3 LaL); have La0 := La.out.c0; have La1 := La.out.c1; have La2 := La.out.c2; have La3 := La.out.c3; have LaL := La.out.lt; (try clear Lb0 Lb1 Lb2 Lb3 LbL); have Lb0 := Lb.out.c0; have Lb1 := Lb.out.c1; have Lb2 := Lb.out.c2; have Lb3 := Lb.out.c3; have LbL := Lb.out.lt; clear hb') | (go_at_call 7; refine (few_any _ _ _ _ _).mono ?_; rintro e w' ⟨rfl, hb'⟩; replace La : Hid (Lies _ _ _ _ _ _) := (by first | exact Lies.on La.out hb' | exact Lies.on (Lies.alloc La.out _) hb'); replace Lb : Hid (Lies _ _ _ _ _ _) := (by first | exact Lies.on Lb.out hb' | exact Lies.on (Lies.alloc Lb.out _) hb'); replace HT : Hid (Tab _) := (by first | exact HT.out.below hb' | exact (HT.out.alloc _).below hb'); replace hA : Hid (Below W.heap.size W _) := (by first | exact below_join hA.out hb' | exact below_join (hA.out.alloc hA.out.size _) hb'); (try clear La0 La1 La2 La3 LaL); have La0 := La.out.c0; have La1 := La.out.c1; have La2 := La.out.c2; have La3 := La.out.c3; have LaL := La.out.lt; (try clear Lb0 Lb1 Lb2 Lb3 LbL); have Lb0 := Lb.out.c0; have Lb1 := Lb.out.c1; have Lb2 := Lb.out.c2; have Lb3 := Lb.out.c3; have LbL := Lb.out.lt; clear hb') | (go_at_call_of 8 (Value.string d0); refine (HI0.out _ HT.out).mono ?_; rintro e w' ⟨rfl, hb'⟩; replace La : Hid (Lies _ _ _ _ _ _) := (by first | exact Lies.on La.out hb' | exact Lies.on (Lies.alloc La.out _) hb'); replace Lb : Hid (Lies _ _ _ _ _ _) := (by first | exact Lies.on Lb.out hb' | exact Lies.on (Lies.alloc Lb.out _) hb'); replace HT : Hid (Tab _) := (by first | exact HT.out.below hb' | exact (HT.out.alloc _).below hb'); replace hA : Hid (Below W.heap.size W _) := (by first | exact below_join hA.out hb' | exact below_join (hA.out.alloc hA.out.size _) hb'); (try clear La0 La1 La2 La3 LaL); have La0 := La.out.c0; have La1 := La.out.c1; have La2 := La.out.c2; have La3 := La.out.c3; have LaL := La.out.lt; (try clear Lb0 Lb1 Lb2 Lb3 LbL); have Lb0 := Lb.out.c0; have Lb1 := Lb.out.c1; have Lb2 := Lb.out.c2; have Lb3 := Lb.out.c3; have LbL := Lb.out.lt; clear hb') | (go_at_call_of 8 (Value.string d1); refine (HI1.out _ HT.out).mono ?_; rintro e w' ⟨rfl, hb'⟩; replace La : Hid (Lies _ _ _ _ _ _) := (by first | exact Lies.on La.out hb' | exact Lies.on (Lies.alloc La.out _) hb'); replace Lb : Hid (Lies _ _ _ _ _ _) := (by first | exact Lies.on Lb.out hb' | exact Lies.on (Lies.alloc Lb.out _) hb'); replace HT : Hid (Tab _) := (by first | exact HT.out.below hb' | exact (HT.out.alloc _).below hb'); replace hA : Hid (Below W.heap.size W _) := (by first | exact below_join hA.out hb' | exact below_join (hA.out.alloc hA.out.size _) hb'); (try clear La0 La1 La2 La3 LaL); have La0 := La.out.c0; have La1 := La.out.c1; have La2 := La.out.c2; have La3 := La.out.c3; have LaL := La.out.lt; (try clear Lb0 Lb1 Lb2 Lb3 LbL); have Lb0 := Lb.out.c0; have Lb1 := Lb.out.c1; have Lb2 := Lb.out.c2; have Lb3 := Lb.out.c3; have LbL := Lb.out.lt; clear hb'))
    go_ret
    exact ⟨rfl, hA.out⟩
  have HX0 : Hid (∀ w, Tab w → Calls Tryd.prog 9 #[.agg #[.bool x0, .int .u32 n0, .bool r0, .string d0]] w fun e w' => e = .returned (.string ⟨(Fm.text0 x0 n0 r0 d0.data.toList).toArray⟩) ∧ Below w.heap.size w w') := fun w hT => text_is i0 h0 w hT
  have HX1 : Hid (∀ w, Tab w → Calls Tryd.prog 9 #[.agg #[.bool x1, .int .u32 n1, .bool r1, .string d1]] w fun e w' => e = .returned (.string ⟨(Fm.text0 x1 n1 r1 d1.data.toList).toArray⟩) ∧ Below w.heap.size w w') := fun w hT => text_is i1 h1 w hT
  obtain ⟨_, q8, qr⟩ := Fm.isF_parts i0
  have q8' : d0.size ≤ 8 := by simpa using q8
  have qr' : r0 = true → d0.size = 0 := fun h => by
    have := congrArg List.length (qr h)
    simpa using this
  have hsz : (ByteArray.mk (Fm.text0 x0 n0 r0 d0.data.toList).toArray).size = Fm.hexW x0 + 1 + (if r0 then 1 else 2 * d0.size) := by
    rw [size_str, Fm.length_text0]; simp
  have HM : Hid (∀ W k, k = (Fm.hexW x0 : Int) → (Instr.index 9 (.string ⟨(Fm.text0 x0 n0 r0 d0.data.toList).toArray⟩) (.int .i64 k)).run Tryd.prog W = .ok (.int .u8 35) W) := fun W k hk => mark x0 n0 r0 d0.data.toList W k hk
  have HIff : Hid (_) := Fm.text_iff i0 i1
  clear i0 i1 q8 qr
  by_cases hs : x0 = x1 ∧ n0 = n1 ∧ r0 = r1 ∧ d0 = d1
  · obtain ⟨rfl, rfl, rfl, rfl⟩ := hs
    clear HIff HI1 h1 f1
    generalize ByteArray.mk (Fm.text0 x0 n0 r0 d0.data.toList).toArray = TX at *
    have qr2 := qr'
    clear qr'
    cases x0 <;> cases r0
    case false.false =>
      have hm := fun W => HM.out W 3 rfl
      have hsz2 : TX.size = 4 + 2 * d0.size := hsz
      skip
      clear hsz HM qr2
      go_enter Tryd.func4, Tryd.ntmps4
      go_wp2_with (first | (go_at_call 5; refine (known3_any _ HT.out).mono ?_; rintro e w' ⟨rfl, hb'⟩; replace La : Hid (Lies _ _ _ _ _ _) := (by first | exact Lies.on La.out hb' | exact Lies.on (Lies.alloc La.out _) hb'); replace Lb : Hid (Lies _ _ _ _ _ _) := (by first | exact Lies.on Lb.out hb' | exact Lies.on (Lies.alloc Lb.out _) hb'); replace HT : Hid (Tab _) := (by first | exact HT.out.below hb' | exact (HT.out.alloc _).below hb'); replace hA : Hid (Below W.heap.size W _) := (by first | exact below_join hA.out hb' | exact below_join (hA.out.alloc hA.out.size _) hb'); (try clear La0 La1 La2 La3 LaL); have La0 := La.out.c0; have La1 := La.out.c1; have La2 := La.out.c2; have La3 := La.out.c3; have LaL := La.out.lt; (try clear Lb0 Lb1 Lb2 Lb3 LbL); have Lb0 := Lb.out.c0; have Lb1 := Lb.out.c1; have Lb2 := Lb.out.c2; have Lb3 := Lb.out.c3; have LbL := Lb.out.lt; clear hb') | (go_at_call 7; refine (few_any _ _ _ _ _).mono ?_; rintro e w' ⟨rfl, hb'⟩; replace La : Hid (Lies _ _ _ _ _ _) := (by first | exact Lies.on La.out hb' | exact Lies.on (Lies.alloc La.out _) hb'); replace Lb : Hid (Lies _ _ _ _ _ _) := (by first | exact Lies.on Lb.out hb' | exact Lies.on (Lies.alloc Lb.out _) hb'); replace HT : Hid (Tab _) := (by first | exact HT.out.below hb' | exact (HT.out.alloc _).below hb'); replace hA : Hid (Below W.heap.size W _) := (by first | exact below_join hA.out hb' | exact below_join (hA.out.alloc hA.out.size _) hb'); (try clear La0 La1 La2 La3 LaL); have La0 := La.out.c0; have La1 := La.out.c1; have La2 := La.out.c2; have La3 := La.out.c3; have LaL := La.out.lt; (try clear Lb0 Lb1 Lb2 Lb3 LbL); have Lb0 := Lb.out.c0; have Lb1 := Lb.out.c1; have Lb2 := Lb.out.c2; have Lb3 := Lb.out.c3; have LbL := Lb.out.lt; clear hb') | (go_at_call_of 8 (Value.string d0); refine (HI0.out _ HT.out).mono ?_; rintro e w' ⟨rfl, hb'⟩; replace La : Hid (Lies _ _ _ _ _ _) := (by first | exact Lies.on La.out hb' | exact Lies.on (Lies.alloc La.out _) hb'); replace Lb : Hid (Lies _ _ _ _ _ _) := (by first | exact Lies.on Lb.out hb' | exact Lies.on (Lies.alloc Lb.out _) hb'); replace HT : Hid (Tab _) := (by first | exact HT.out.below hb' | exact (HT.out.alloc _).below hb'); replace hA : Hid (Below W.heap.size W _) := (by first | exact below_join hA.out hb' | exact below_join (hA.out.alloc hA.out.size _) hb'); (try clear La0 La1 La2 La3 LaL); have La0 := La.out.c0; have La1 := La.out.c1; have La2 := La.out.c2; have La3 := La.out.c3; have LaL := La.out.lt; (try clear Lb0 Lb1 Lb2 Lb3 LbL); have Lb0 := Lb.out.c0; have Lb1 := Lb.out.c1; have Lb2 := Lb.out.c2; have Lb3 := Lb.out.c3; have LbL := Lb.out.lt; clear hb') | (go_at_call_of 8 (Value.string d1); refine (HI1.out _ HT.out).mono ?_; rintro e w' ⟨rfl, hb'⟩; replace La : Hid (Lies _ _ _ _ _ _) := (by first | exact Lies.on La.out hb' | exact Lies.on (Lies.alloc La.out _) hb'); replace Lb : Hid (Lies _ _ _ _ _ _) := (by first | exact Lies.on Lb.out hb' | exact Lies.on (Lies.alloc Lb.out _) hb'); replace HT : Hid (Tab _) := (by first | exact HT.out.below hb' | exact (HT.out.alloc _).below hb'); replace hA : Hid (Below W.heap.size W _) := (by first | exact below_join hA.out hb' | exact below_join (hA.out.alloc hA.out.size _) hb'); (try clear La0 La1 La2 La3 LaL); have La0 := La.out.c0; have La1 := La.out.c1; have La2 := La.out.c2; have La3 := La.out.c3; have LaL := La.out.lt; (try clear Lb0 Lb1 Lb2 Lb3 LbL); have Lb0 := Lb.out.c0; have Lb1 := Lb.out.c1; have Lb2 := Lb.out.c2; have Lb3 := Lb.out.c3; have LbL := Lb.out.lt; clear hb') | (go_at_call 9; refine (HX0.out _ HT.out).mono ?_; rintro e w' ⟨rfl, hb'⟩; replace La : Hid (Lies _ _ _ _ _ _) := (by first | exact Lies.on La.out hb' | exact Lies.on (Lies.alloc La.out _) hb'); replace Lb : Hid (Lies _ _ _ _ _ _) := (by first | exact Lies.on Lb.out hb' | exact Lies.on (Lies.alloc Lb.out _) hb'); replace HT : Hid (Tab _) := (by first | exact HT.out.below hb' | exact (HT.out.alloc _).below hb'); replace hA : Hid (Below W.heap.size W _) := (by first | exact below_join hA.out hb' | exact below_join (hA.out.alloc hA.out.size _) hb'); (try clear La0 La1 La2 La3 LaL); have La0 := La.out.c0; have La1 := La.out.c1; have La2 := La.out.c2; have La3 := La.out.c3; have LaL := La.out.lt; (try clear Lb0 Lb1 Lb2 Lb3 LbL); have Lb0 := Lb.out.c0; have Lb1 := Lb.out.c1; have Lb2 := Lb.out.c2; have Lb3 := Lb.out.c3; have LbL := Lb.out.lt; clear hb'))
      refine Lw.wp_region_quiet_below (by kernel_rfl) (by kernel_rfl) ?_
      repeat (first
        | go_big_quiet_skip
        | (go_big_quiet_want; go_big_quiet_op; go_big_quiet_on)
        | (go_big_quiet_want; go_big_quiet_op; apply Exists.intro; refine ⟨fun _ hb' => ?_, ?_⟩; (first
          | exact Lw.val_rfl _
          | (go_at_call 9; exact Lw.calls_below hb' (HX1.out _ (HT.out.below hb')))
          | (simp [go_sem, (Lies.on La.out hb').c0, (Lies.on La.out hb').c1, (Lies.on La.out hb').c2, (Lies.on La.out hb').c3]; rfl)
          | (simp [go_sem, (Lies.on Lb.out hb').c0, (Lies.on Lb.out hb').c1, (Lies.on Lb.out hb').c2, (Lies.on Lb.out hb').c3]; rfl)); go_big_quiet_on))
      refine wpQuiet_nil ?_
      intro w5 hb5
      have hA5 := below_join hA.out hb5
      go_wp2
      go_ret
      exact ⟨rfl, hA5⟩
    case false.true =>
      have hm := fun W => HM.out W 3 rfl
      have hsz2 : TX.size = 4 + 1 := hsz
      have q0 := qr2 rfl
      clear hsz HM qr2
      go_enter Tryd.func4, Tryd.ntmps4
      go_wp2_with (first | (go_at_call 5; refine (known3_any _ HT.out).mono ?_; rintro e w' ⟨rfl, hb'⟩; replace La : Hid (Lies _ _ _ _ _ _) := (by first | exact Lies.on La.out hb' | exact Lies.on (Lies.alloc La.out _) hb'); replace Lb : Hid (Lies _ _ _ _ _ _) := (by first | exact Lies.on Lb.out hb' | exact Lies.on (Lies.alloc Lb.out _) hb'); replace HT : Hid (Tab _) := (by first | exact HT.out.below hb' | exact (HT.out.alloc _).below hb'); replace hA : Hid (Below W.heap.size W _) := (by first | exact below_join hA.out hb' | exact below_join (hA.out.alloc hA.out.size _) hb'); (try clear La0 La1 La2 La3 LaL); have La0 := La.out.c0; have La1 := La.out.c1; have La2 := La.out.c2; have La3 := La.out.c3; have LaL := La.out.lt; (try clear Lb0 Lb1 Lb2 Lb3 LbL); have Lb0 := Lb.out.c0; have Lb1 := Lb.out.c1; have Lb2 := Lb.out.c2; have Lb3 := Lb.out.c3; have LbL := Lb.out.lt; clear hb') | (go_at_call 7; refine (few_any _ _ _ _ _).mono ?_; rintro e w' ⟨rfl, hb'⟩; replace La : Hid (Lies _ _ _ _ _ _) := (by first | exact Lies.on La.out hb' | exact Lies.on (Lies.alloc La.out _) hb'); replace Lb : Hid (Lies _ _ _ _ _ _) := (by first | exact Lies.on Lb.out hb' | exact Lies.on (Lies.alloc Lb.out _) hb'); replace HT : Hid (Tab _) := (by first | exact HT.out.below hb' | exact (HT.out.alloc _).below hb'); replace hA : Hid (Below W.heap.size W _) := (by first | exact below_join hA.out hb' | exact below_join (hA.out.alloc hA.out.size _) hb'); (try clear La0 La1 La2 La3 LaL); have La0 := La.out.c0; have La1 := La.out.c1; have La2 := La.out.c2; have La3 := La.out.c3; have LaL := La.out.lt; (try clear Lb0 Lb1 Lb2 Lb3 LbL); have Lb0 := Lb.out.c0; have Lb1 := Lb.out.c1; have Lb2 := Lb.out.c2; have Lb3 := Lb.out.c3; have LbL := Lb.out.lt; clear hb') | (go_at_call_of 8 (Value.string d0); refine (HI0.out _ HT.out).mono ?_; rintro e w' ⟨rfl, hb'⟩; replace La : Hid (Lies _ _ _ _ _ _) := (by first | exact Lies.on La.out hb' | exact Lies.on (Lies.alloc La.out _) hb'); replace Lb : Hid (Lies _ _ _ _ _ _) := (by first | exact Lies.on Lb.out hb' | exact Lies.on (Lies.alloc Lb.out _) hb'); replace HT : Hid (Tab _) := (by first | exact HT.out.below hb' | exact (HT.out.alloc _).below hb'); replace hA : Hid (Below W.heap.size W _) := (by first | exact below_join hA.out hb' | exact below_join (hA.out.alloc hA.out.size _) hb'); (try clear La0 La1 La2 La3 LaL); have La0 := La.out.c0; have La1 := La.out.c1; have La2 := La.out.c2; have La3 := La.out.c3; have LaL := La.out.lt; (try clear Lb0 Lb1 Lb2 Lb3 LbL); have Lb0 := Lb.out.c0; have Lb1 := Lb.out.c1; have Lb2 := Lb.out.c2; have Lb3 := Lb.out.c3; have LbL := Lb.out.lt; clear hb') | (go_at_call_of 8 (Value.string d1); refine (HI1.out _ HT.out).mono ?_; rintro e w' ⟨rfl, hb'⟩; replace La : Hid (Lies _ _ _ _ _ _) := (by first | exact Lies.on La.out hb' | exact Lies.on (Lies.alloc La.out _) hb'); replace Lb : Hid (Lies _ _ _ _ _ _) := (by first | exact Lies.on Lb.out hb' | exact Lies.on (Lies.alloc Lb.out _) hb'); replace HT : Hid (Tab _) := (by first | exact HT.out.below hb' | exact (HT.out.alloc _).below hb'); replace hA : Hid (Below W.heap.size W _) := (by first | exact below_join hA.out hb' | exact below_join (hA.out.alloc hA.out.size _) hb'); (try clear La0 La1 La2 La3 LaL); have La0 := La.out.c0; have La1 := La.out.c1; have La2 := La.out.c2; have La3 := La.out.c3; have LaL := La.out.lt; (try clear Lb0 Lb1 Lb2 Lb3 LbL); have Lb0 := Lb.out.c0; have Lb1 := Lb.out.c1; have Lb2 := Lb.out.c2; have Lb3 := Lb.out.c3; have LbL := Lb.out.lt; clear hb') | (go_at_call 9; refine (HX0.out _ HT.out).mono ?_; rintro e w' ⟨rfl, hb'⟩; replace La : Hid (Lies _ _ _ _ _ _) := (by first | exact Lies.on La.out hb' | exact Lies.on (Lies.alloc La.out _) hb'); replace Lb : Hid (Lies _ _ _ _ _ _) := (by first | exact Lies.on Lb.out hb' | exact Lies.on (Lies.alloc Lb.out _) hb'); replace HT : Hid (Tab _) := (by first | exact HT.out.below hb' | exact (HT.out.alloc _).below hb'); replace hA : Hid (Below W.heap.size W _) := (by first | exact below_join hA.out hb' | exact below_join (hA.out.alloc hA.out.size _) hb'); (try clear La0 La1 La2 La3 LaL); have La0 := La.out.c0; have La1 := La.out.c1; have La2 := La.out.c2; have La3 := La.out.c3; have LaL := La.out.lt; (try clear Lb0 Lb1 Lb2 Lb3 LbL); have Lb0 := Lb.out.c0; have Lb1 := Lb.out.c1; have Lb2 := Lb.out.c2; have Lb3 := Lb.out.c3; have LbL := Lb.out.lt; clear hb'))
      refine Lw.wp_region_quiet_below (by kernel_rfl) (by kernel_rfl) ?_
      repeat (first
        | go_big_quiet_skip
        | (go_big_quiet_want; go_big_quiet_op; go_big_quiet_on)
        | (go_big_quiet_want; go_big_quiet_op; apply Exists.intro; refine ⟨fun _ hb' => ?_, ?_⟩; (first
          | exact Lw.val_rfl _
          | (go_at_call 9; exact Lw.calls_below hb' (HX1.out _ (HT.out.below hb')))
          | (simp [go_sem, (Lies.on La.out hb').c0, (Lies.on La.out hb').c1, (Lies.on La.out hb').c2, (Lies.on La.out hb').c3]; rfl)
          | (simp [go_sem, (Lies.on Lb.out hb').c0, (Lies.on Lb.out hb').c1, (Lies.on Lb.out hb').c2, (Lies.on Lb.out hb').c3]; rfl)); go_big_quiet_on))
      refine wpQuiet_nil ?_
      intro w5 hb5
      have hA5 := below_join hA.out hb5
      go_wp2
      go_ret
      exact ⟨rfl, hA5⟩
    case true.false =>
      have hm := fun W => HM.out W 8 rfl
      have hsz2 : TX.size = 9 + 2 * d0.size := hsz
      skip
      clear hsz HM qr2
      go_enter Tryd.func4, Tryd.ntmps4
      go_wp2_with (first | (go_at_call 5; refine (known3_any _ HT.out).mono ?_; rintro e w' ⟨rfl, hb'⟩; replace La : Hid (Lies _ _ _ _ _ _) := (by first | exact Lies.on La.out hb' | exact Lies.on (Lies.alloc La.out _) hb'); replace Lb : Hid (Lies _ _ _ _ _ _) := (by first | exact Lies.on Lb.out hb' | exact Lies.on (Lies.alloc Lb.out _) hb'); replace HT : Hid (Tab _) := (by first | exact HT.out.below hb' | exact (HT.out.alloc _).below hb'); replace hA : Hid (Below W.heap.size W _) := (by first | exact below_join hA.out hb' | exact below_join (hA.out.alloc hA.out.size _) hb'); (try clear La0 La1 La2 La3 LaL); have La0 := La.out.c0; have La1 := La.out.c1; have La2 := La.out.c2; have La3 := La.out.c3; have LaL := La.out.lt; (try clear Lb0 Lb1 Lb2 Lb3 LbL); have Lb0 := Lb.out.c0; have Lb1 := Lb.out.c1; have Lb2 := Lb.out.c2; have Lb3 := Lb.out.c3; have LbL := Lb.out.lt; clear hb') | (go_at_call 7; refine (few_any _ _ _ _ _).mono ?_; rintro e w' ⟨rfl, hb'⟩; replace La : Hid (Lies _ _ _ _ _ _) := (by first | exact Lies.on La.out hb' | exact Lies.on (Lies.alloc La.out _) hb'); replace Lb : Hid (Lies _ _ _ _ _ _) := (by first | exact Lies.on Lb.out hb' | exact Lies.on (Lies.alloc Lb.out _) hb'); replace HT : Hid (Tab _) := (by first | exact HT.out.below hb' | exact (HT.out.alloc _).below hb'); replace hA : Hid (Below W.heap.size W _) := (by first | exact below_join hA.out hb' | exact below_join (hA.out.alloc hA.out.size _) hb'); (try clear La0 La1 La2 La3 LaL); have La0 := La.out.c0; have La1 := La.out.c1; have La2 := La.out.c2; have La3 := La.out.c3; have LaL := La.out.lt; (try clear Lb0 Lb1 Lb2 Lb3 LbL); have Lb0 := Lb.out.c0; have Lb1 := Lb.out.c1; have Lb2 := Lb.out.c2; have Lb3 := Lb.out.c3; have LbL := Lb.out.lt; clear hb') | (go_at_call_of 8 (Value.string d0); refine (HI0.out _ HT.out).mono ?_; rintro e w' ⟨rfl, hb'⟩; replace La : Hid (Lies _ _ _ _ _ _) := (by first | exact Lies.on La.out hb' | exact Lies.on (Lies.alloc La.out _) hb'); replace Lb : Hid (Lies _ _ _ _ _ _) := (by first | exact Lies.on Lb.out hb' | exact Lies.on (Lies.alloc Lb.out _) hb'); replace HT : Hid (Tab _) := (by first | exact HT.out.below hb' | exact (HT.out.alloc _).below hb'); replace hA : Hid (Below W.heap.size W _) := (by first | exact below_join hA.out hb' | exact below_join (hA.out.alloc hA.out.size _) hb'); (try clear La0 La1 La2 La3 LaL); have La0 := La.out.c0; have La1 := La.out.c1; have La2 := La.out.c2; have La3 := La.out.c3; have LaL := La.out.lt; (try clear Lb0 Lb1 Lb2 Lb3 LbL); have Lb0 := Lb.out.c0; have Lb1 := Lb.out.c1; have Lb2 := Lb.out.c2; have Lb3 := Lb.out.c3; have LbL := Lb.out.lt; clear hb') | (go_at_call_of 8 (Value.string d1); refine (HI1.out _ HT.out).mono ?_; rintro e w' ⟨rfl, hb'⟩; replace La : Hid (Lies _ _ _ _ _ _) := (by first | exact Lies.on La.out hb' | exact Lies.on (Lies.alloc La.out _) hb'); replace Lb : Hid (Lies _ _ _ _ _ _) := (by first | exact Lies.on Lb.out hb' | exact Lies.on (Lies.alloc Lb.out _) hb'); replace HT : Hid (Tab _) := (by first | exact HT.out.below hb' | exact (HT.out.alloc _).below hb'); replace hA : Hid (Below W.heap.size W _) := (by first | exact below_join hA.out hb' | exact below_join (hA.out.alloc hA.out.size _) hb'); (try clear La0 La1 La2 La3 LaL); have La0 := La.out.c0; have La1 := La.out.c1; have La2 := La.out.c2; have La3 := La.out.c3; have LaL := La.out.lt; (try clear Lb0 Lb1 Lb2 Lb3 LbL); have Lb0 := Lb.out.c0; have Lb1 := Lb.out.c1; have Lb2 := Lb.out.c2; have Lb3 := Lb.out.c3; have LbL := Lb.out.lt; clear hb') | (go_at_call 9; refine (HX0.out _ HT.out).mono ?_; rintro e w' ⟨rfl, hb'⟩; replace La : Hid (Lies _ _ _ _ _ _) := (by first | exact Lies.on La.out hb' | exact Lies.on (Lies.alloc La.out _) hb'); replace Lb : Hid (Lies _ _ _ _ _ _) := (by first | exact Lies.on Lb.out hb' | exact Lies.on (Lies.alloc Lb.out _) hb'); replace HT : Hid (Tab _) := (by first | exact HT.out.below hb' | exact (HT.out.alloc _).below hb'); replace hA : Hid (Below W.heap.size W _) := (by first | exact below_join hA.out hb' | exact below_join (hA.out.alloc hA.out.size _) hb'); (try clear La0 La1 La2 La3 LaL); have La0 := La.out.c0; have La1 := La.out.c1; have La2 := La.out.c2; have La3 := La.out.c3; have LaL := La.out.lt; (try clear Lb0 Lb1 Lb2 Lb3 LbL); have Lb0 := Lb.out.c0; have Lb1 := Lb.out.c1; have Lb2 := Lb.out.c2; have Lb3 := Lb.out.c3; have LbL := Lb.out.lt; clear hb'))
      refine Lw.wp_region_quiet_below (by kernel_rfl) (by kernel_rfl) ?_
      repeat (first
        | go_big_quiet_skip
        | (go_big_quiet_want; go_big_quiet_op; go_big_quiet_on)
        | (go_big_quiet_want; go_big_quiet_op; apply Exists.intro; refine ⟨fun _ hb' => ?_, ?_⟩; (first
          | exact Lw.val_rfl _
          | (go_at_call 9; exact Lw.calls_below hb' (HX1.out _ (HT.out.below hb')))
          | (simp [go_sem, (Lies.on La.out hb').c0, (Lies.on La.out hb').c1, (Lies.on La.out hb').c2, (Lies.on La.out hb').c3]; rfl)
          | (simp [go_sem, (Lies.on Lb.out hb').c0, (Lies.on Lb.out hb').c1, (Lies.on Lb.out hb').c2, (Lies.on Lb.out hb').c3]; rfl)); go_big_quiet_on))
      refine wpQuiet_nil ?_
      intro w5 hb5
      have hA5 := below_join hA.out hb5
      go_wp2
      go_ret
      exact ⟨rfl, hA5⟩
    case true.true =>
      have hm := fun W => HM.out W 8 rfl
      have hsz2 : TX.size = 9 + 1 := hsz
      have q0 := qr2 rfl
      clear hsz HM qr2
      go_enter Tryd.func4, Tryd.ntmps4
      go_wp2_with (first | (go_at_call 5; refine (known3_any _ HT.out).mono ?_; rintro e w' ⟨rfl, hb'⟩; replace La : Hid (Lies _ _ _ _ _ _) := (by first | exact Lies.on La.out hb' | exact Lies.on (Lies.alloc La.out _) hb'); replace Lb : Hid (Lies _ _ _ _ _ _) := (by first | exact Lies.on Lb.out hb' | exact Lies.on (Lies.alloc Lb.out _) hb'); replace HT : Hid (Tab _) := (by first | exact HT.out.below hb' | exact (HT.out.alloc _).below hb'); replace hA : Hid (Below W.heap.size W _) := (by first | exact below_join hA.out hb' | exact below_join (hA.out.alloc hA.out.size _) hb'); (try clear La0 La1 La2 La3 LaL); have La0 := La.out.c0; have La1 := La.out.c1; have La2 := La.out.c2; have La3 := La.out.c3; have LaL := La.out.lt; (try clear Lb0 Lb1 Lb2 Lb3 LbL); have Lb0 := Lb.out.c0; have Lb1 := Lb.out.c1; have Lb2 := Lb.out.c2; have Lb3 := Lb.out.c3; have LbL := Lb.out.lt; clear hb') | (go_at_call 7; refine (few_any _ _ _ _ _).mono ?_; rintro e w' ⟨rfl, hb'⟩; replace La : Hid (Lies _ _ _ _ _ _) := (by first | exact Lies.on La.out hb' | exact Lies.on (Lies.alloc La.out _) hb'); replace Lb : Hid (Lies _ _ _ _ _ _) := (by first | exact Lies.on Lb.out hb' | exact Lies.on (Lies.alloc Lb.out _) hb'); replace HT : Hid (Tab _) := (by first | exact HT.out.below hb' | exact (HT.out.alloc _).below hb'); replace hA : Hid (Below W.heap.size W _) := (by first | exact below_join hA.out hb' | exact below_join (hA.out.alloc hA.out.size _) hb'); (try clear La0 La1 La2 La3 LaL); have La0 := La.out.c0; have La1 := La.out.c1; have La2 := La.out.c2; have La3 := La.out.c3; have LaL := La.out.lt; (try clear Lb0 Lb1 Lb2 Lb3 LbL); have Lb0 := Lb.out.c0; have Lb1 := Lb.out.c1; have Lb2 := Lb.out.c2; have Lb3 := Lb.out.c3; have LbL := Lb.out.lt; clear hb') | (go_at_call_of 8 (Value.string d0); refine (HI0.out _ HT.out).mono ?_; rintro e w' ⟨rfl, hb'⟩; replace La : Hid (Lies _ _ _ _ _ _) := (by first | exact Lies.on La.out hb' | exact Lies.on (Lies.alloc La.out _) hb'); replace Lb : Hid (Lies _ _ _ _ _ _) := (by first | exact Lies.on Lb.out hb' | exact Lies.on (Lies.alloc Lb.out _) hb'); replace HT : Hid (Tab _) := (by first | exact HT.out.below hb' | exact (HT.out.alloc _).below hb'); replace hA : Hid (Below W.heap.size W _) := (by first | exact below_join hA.out hb' | exact below_join (hA.out.alloc hA.out.size _) hb'); (try clear La0 La1 La2 La3 LaL); have La0 := La.out.c0; have La1 := La.out.c1; have La2 := La.out.c2; have La3 := La.out.c3; have LaL := La.out.lt; (try clear Lb0 Lb1 Lb2 Lb3 LbL); have Lb0 := Lb.out.c0; have Lb1 := Lb.out.c1; have Lb2 := Lb.out.c2; have Lb3 := Lb.out.c3; have LbL := Lb.out.lt; clear hb') | (go_at_call_of 8 (Value.string d1); refine (HI1.out _ HT.out).mono ?_; rintro e w' ⟨rfl, hb'⟩; replace La : Hid (Lies _ _ _ _ _ _) := (by first | exact Lies.on La.out hb' | exact Lies.on (Lies.alloc La.out _) hb'); replace Lb : Hid (Lies _ _ _ _ _ _) := (by first | exact Lies.on Lb.out hb' | exact Lies.on (Lies.alloc Lb.out _) hb'); replace HT : Hid (Tab _) := (by first | exact HT.out.below hb' | exact (HT.out.alloc _).below hb'); replace hA : Hid (Below W.heap.size W _) := (by first | exact below_join hA.out hb' | exact below_join (hA.out.alloc hA.out.size _) hb'); (try clear La0 La1 La2 La3 LaL); have La0 := La.out.c0; have La1 := La.out.c1; have La2 := La.out.c2; have La3 := La.out.c3; have LaL := La.out.lt; (try clear Lb0 Lb1 Lb2 Lb3 LbL); have Lb0 := Lb.out.c0; have Lb1 := Lb.out.c1; have Lb2 := Lb.out.c2; have Lb3 := Lb.out.c3; have LbL := Lb.out.lt; clear hb') | (go_at_call 9; refine (HX0.out _ HT.out).mono ?_; rintro e w' ⟨rfl, hb'⟩; replace La : Hid (Lies _ _ _ _ _ _) := (by first | exact Lies.on La.out hb' | exact Lies.on (Lies.alloc La.out _) hb'); replace Lb : Hid (Lies _ _ _ _ _ _) := (by first | exact Lies.on Lb.out hb' | exact Lies.on (Lies.alloc Lb.out _) hb'); replace HT : Hid (Tab _) := (by first | exact HT.out.below hb' | exact (HT.out.alloc _).below hb'); replace hA : Hid (Below W.heap.size W _) := (by first | exact below_join hA.out hb' | exact below_join (hA.out.alloc hA.out.size _) hb'); (try clear La0 La1 La2 La3 LaL); have La0 := La.out.c0; have La1 := La.out.c1; have La2 := La.out.c2; have La3 := La.out.c3; have LaL := La.out.lt; (try clear Lb0 Lb1 Lb2 Lb3 LbL); have Lb0 := Lb.out.c0; have Lb1 := Lb.out.c1; have Lb2 := Lb.out.c2; have Lb3 := Lb.out.c3; have LbL := Lb.out.lt; clear hb'))
      refine Lw.wp_region_quiet_below (by kernel_rfl) (by kernel_rfl) ?_
      repeat (first
        | go_big_quiet_skip
        | (go_big_quiet_want; go_big_quiet_op; go_big_quiet_on)
        | (go_big_quiet_want; go_big_quiet_op; apply Exists.intro; refine ⟨fun _ hb' => ?_, ?_⟩; (first
          | exact Lw.val_rfl _
          | (go_at_call 9; exact Lw.calls_below hb' (HX1.out _ (HT.out.below hb')))
          | (simp [go_sem, (Lies.on La.out hb').c0, (Lies.on La.out hb').c1, (Lies.on La.out hb').c2, (Lies.on La.out hb').c3]; rfl)
          | (simp [go_sem, (Lies.on Lb.out hb').c0, (Lies.on Lb.out hb').c1, (Lies.on Lb.out hb').c2, (Lies.on Lb.out hb').c3]; rfl)); go_big_quiet_on))
      refine wpQuiet_nil ?_
      intro w5 hb5
      have hA5 := below_join hA.out hb5
      go_wp2
      go_ret
      exact ⟨rfl, hA5⟩
  · have HNt : Hid (ByteArray.mk (Fm.text0 x0 n0 r0 d0.data.toList).toArray ≠ ByteArray.mk (Fm.text0 x1 n1 r1 d1.data.toList).toArray) := fun e => hs (by
      have e2 := congrArg (fun z : ByteArray => z.data.toList) e
      simp only at e2
      obtain ⟨p1, p2, p3, p4⟩ := HIff.out.1 e2
      exact ⟨p1, p2, p3, data_inj p4⟩)
    have hn1 := toList_ne HNt.out
    have HN : Hid (_) := hs
    clear hs HNt HIff
    generalize ByteArray.mk (Fm.text0 x0 n0 r0 d0.data.toList).toArray = TX at *
    generalize ByteArray.mk (Fm.text0 x1 n1 r1 d1.data.toList).toArray = TY at *
    have qr2 := qr'
    clear qr'
    cases x0 <;> cases r0
    case false.false =>
      have hm := fun W => HM.out W 3 rfl
      have hsz2 : TX.size = 4 + 2 * d0.size := hsz
      skip
      clear hsz HM qr2
      go_enter Tryd.func4, Tryd.ntmps4
      go_wp2_with (first | (go_at_call 5; refine (known3_any _ HT.out).mono ?_; rintro e w' ⟨rfl, hb'⟩; replace La : Hid (Lies _ _ _ _ _ _) := (by first | exact Lies.on La.out hb' | exact Lies.on (Lies.alloc La.out _) hb'); replace Lb : Hid (Lies _ _ _ _ _ _) := (by first | exact Lies.on Lb.out hb' | exact Lies.on (Lies.alloc Lb.out _) hb'); replace HT : Hid (Tab _) := (by first | exact HT.out.below hb' | exact (HT.out.alloc _).below hb'); replace hA : Hid (Below W.heap.size W _) := (by first | exact below_join hA.out hb' | exact below_join (hA.out.alloc hA.out.size _) hb'); (try clear La0 La1 La2 La3 LaL); have La0 := La.out.c0; have La1 := La.out.c1; have La2 := La.out.c2; have La3 := La.out.c3; have LaL := La.out.lt; (try clear Lb0 Lb1 Lb2 Lb3 LbL); have Lb0 := Lb.out.c0; have Lb1 := Lb.out.c1; have Lb2 := Lb.out.c2; have Lb3 := Lb.out.c3; have LbL := Lb.out.lt; clear hb') | (go_at_call 7; refine (few_any _ _ _ _ _).mono ?_; rintro e w' ⟨rfl, hb'⟩; replace La : Hid (Lies _ _ _ _ _ _) := (by first | exact Lies.on La.out hb' | exact Lies.on (Lies.alloc La.out _) hb'); replace Lb : Hid (Lies _ _ _ _ _ _) := (by first | exact Lies.on Lb.out hb' | exact Lies.on (Lies.alloc Lb.out _) hb'); replace HT : Hid (Tab _) := (by first | exact HT.out.below hb' | exact (HT.out.alloc _).below hb'); replace hA : Hid (Below W.heap.size W _) := (by first | exact below_join hA.out hb' | exact below_join (hA.out.alloc hA.out.size _) hb'); (try clear La0 La1 La2 La3 LaL); have La0 := La.out.c0; have La1 := La.out.c1; have La2 := La.out.c2; have La3 := La.out.c3; have LaL := La.out.lt; (try clear Lb0 Lb1 Lb2 Lb3 LbL); have Lb0 := Lb.out.c0; have Lb1 := Lb.out.c1; have Lb2 := Lb.out.c2; have Lb3 := Lb.out.c3; have LbL := Lb.out.lt; clear hb') | (go_at_call_of 8 (Value.string d0); refine (HI0.out _ HT.out).mono ?_; rintro e w' ⟨rfl, hb'⟩; replace La : Hid (Lies _ _ _ _ _ _) := (by first | exact Lies.on La.out hb' | exact Lies.on (Lies.alloc La.out _) hb'); replace Lb : Hid (Lies _ _ _ _ _ _) := (by first | exact Lies.on Lb.out hb' | exact Lies.on (Lies.alloc Lb.out _) hb'); replace HT : Hid (Tab _) := (by first | exact HT.out.below hb' | exact (HT.out.alloc _).below hb'); replace hA : Hid (Below W.heap.size W _) := (by first | exact below_join hA.out hb' | exact below_join (hA.out.alloc hA.out.size _) hb'); (try clear La0 La1 La2 La3 LaL); have La0 := La.out.c0; have La1 := La.out.c1; have La2 := La.out.c2; have La3 := La.out.c3; have LaL := La.out.lt; (try clear Lb0 Lb1 Lb2 Lb3 LbL); have Lb0 := Lb.out.c0; have Lb1 := Lb.out.c1; have Lb2 := Lb.out.c2; have Lb3 := Lb.out.c3; have LbL := Lb.out.lt; clear hb') | (go_at_call_of 8 (Value.string d1); refine (HI1.out _ HT.out).mono ?_; rintro e w' ⟨rfl, hb'⟩; replace La : Hid (Lies _ _ _ _ _ _) := (by first | exact Lies.on La.out hb' | exact Lies.on (Lies.alloc La.out _) hb'); replace Lb : Hid (Lies _ _ _ _ _ _) := (by first | exact Lies.on Lb.out hb' | exact Lies.on (Lies.alloc Lb.out _) hb'); replace HT : Hid (Tab _) := (by first | exact HT.out.below hb' | exact (HT.out.alloc _).below hb'); replace hA : Hid (Below W.heap.size W _) := (by first | exact below_join hA.out hb' | exact below_join (hA.out.alloc hA.out.size _) hb'); (try clear La0 La1 La2 La3 LaL); have La0 := La.out.c0; have La1 := La.out.c1; have La2 := La.out.c2; have La3 := La.out.c3; have LaL := La.out.lt; (try clear Lb0 Lb1 Lb2 Lb3 LbL); have Lb0 := Lb.out.c0; have Lb1 := Lb.out.c1; have Lb2 := Lb.out.c2; have Lb3 := Lb.out.c3; have LbL := Lb.out.lt; clear hb') | (go_at_call 9; refine (HX0.out _ HT.out).mono ?_; rintro e w' ⟨rfl, hb'⟩; replace La : Hid (Lies _ _ _ _ _ _) := (by first | exact Lies.on La.out hb' | exact Lies.on (Lies.alloc La.out _) hb'); replace Lb : Hid (Lies _ _ _ _ _ _) := (by first | exact Lies.on Lb.out hb' | exact Lies.on (Lies.alloc Lb.out _) hb'); replace HT : Hid (Tab _) := (by first | exact HT.out.below hb' | exact (HT.out.alloc _).below hb'); replace hA : Hid (Below W.heap.size W _) := (by first | exact below_join hA.out hb' | exact below_join (hA.out.alloc hA.out.size _) hb'); (try clear La0 La1 La2 La3 LaL); have La0 := La.out.c0; have La1 := La.out.c1; have La2 := La.out.c2; have La3 := La.out.c3; have LaL := La.out.lt; (try clear Lb0 Lb1 Lb2 Lb3 LbL); have Lb0 := Lb.out.c0; have Lb1 := Lb.out.c1; have Lb2 := Lb.out.c2; have Lb3 := Lb.out.c3; have LbL := Lb.out.lt; clear hb'))
      refine Lw.wp_region_quiet_below (by kernel_rfl) (by kernel_rfl) ?_
      repeat (first
        | go_big_quiet_skip
        | (go_big_quiet_want; go_big_quiet_op; go_big_quiet_on)
        | (go_big_quiet_want; go_big_quiet_op; apply Exists.intro; refine ⟨fun _ hb' => ?_, ?_⟩; (first
          | exact Lw.val_rfl _
          | (go_at_call 9; exact Lw.calls_below hb' (HX1.out _ (HT.out.below hb')))
          | (rw [ite_ff HN.out]; exact ⟨rfl, rfl⟩)
          | (rw [ite_ft HN.out]; exact ⟨rfl, rfl⟩)
          | (rw [ite_tf HN.out]; exact ⟨rfl, rfl⟩)
          | (rw [ite_tt HN.out]; exact ⟨rfl, rfl⟩)
          | (simp [go_sem, (Lies.on La.out hb').c0, (Lies.on La.out hb').c1, (Lies.on La.out hb').c2, (Lies.on La.out hb').c3]; rfl)
          | (simp [go_sem, (Lies.on Lb.out hb').c0, (Lies.on Lb.out hb').c1, (Lies.on Lb.out hb').c2, (Lies.on Lb.out hb').c3]; rfl)); go_big_quiet_on))
      refine wpQuiet_nil ?_
      intro w5 hb5
      have hA5 := below_join hA.out hb5
      go_wp2
      go_ret
      exact ⟨rfl, hA5⟩
    case false.true =>
      have hm := fun W => HM.out W 3 rfl
      have hsz2 : TX.size = 4 + 1 := hsz
      have q0 := qr2 rfl
      clear hsz HM qr2
      go_enter Tryd.func4, Tryd.ntmps4
      go_wp2_with (first | (go_at_call 5; refine (known3_any _ HT.out).mono ?_; rintro e w' ⟨rfl, hb'⟩; replace La : Hid (Lies _ _ _ _ _ _) := (by first | exact Lies.on La.out hb' | exact Lies.on (Lies.alloc La.out _) hb'); replace Lb : Hid (Lies _ _ _ _ _ _) := (by first | exact Lies.on Lb.out hb' | exact Lies.on (Lies.alloc Lb.out _) hb'); replace HT : Hid (Tab _) := (by first | exact HT.out.below hb' | exact (HT.out.alloc _).below hb'); replace hA : Hid (Below W.heap.size W _) := (by first | exact below_join hA.out hb' | exact below_join (hA.out.alloc hA.out.size _) hb'); (try clear La0 La1 La2 La3 LaL); have La0 := La.out.c0; have La1 := La.out.c1; have La2 := La.out.c2; have La3 := La.out.c3; have LaL := La.out.lt; (try clear Lb0 Lb1 Lb2 Lb3 LbL); have Lb0 := Lb.out.c0; have Lb1 := Lb.out.c1; have Lb2 := Lb.out.c2; have Lb3 := Lb.out.c3; have LbL := Lb.out.lt; clear hb') | (go_at_call 7; refine (few_any _ _ _ _ _).mono ?_; rintro e w' ⟨rfl, hb'⟩; replace La : Hid (Lies _ _ _ _ _ _) := (by first | exact Lies.on La.out hb' | exact Lies.on (Lies.alloc La.out _) hb'); replace Lb : Hid (Lies _ _ _ _ _ _) := (by first | exact Lies.on Lb.out hb' | exact Lies.on (Lies.alloc Lb.out _) hb'); replace HT : Hid (Tab _) := (by first | exact HT.out.below hb' | exact (HT.out.alloc _).below hb'); replace hA : Hid (Below W.heap.size W _) := (by first | exact below_join hA.out hb' | exact below_join (hA.out.alloc hA.out.size _) hb'); (try clear La0 La1 La2 La3 LaL); have La0 := La.out.c0; have La1 := La.out.c1; have La2 := La.out.c2; have La3 := La.out.c3; have LaL := La.out.lt; (try clear Lb0 Lb1 Lb2 Lb3 LbL); have Lb0 := Lb.out.c0; have Lb1 := Lb.out.c1; have Lb2 := Lb.out.c2; have Lb3 := Lb.out.c3; have LbL := Lb.out.lt; clear hb') | (go_at_call_of 8 (Value.string d0); refine (HI0.out _ HT.out).mono ?_; rintro e w' ⟨rfl, hb'⟩; replace La : Hid (Lies _ _ _ _ _ _) := (by first | exact Lies.on La.out hb' | exact Lies.on (Lies.alloc La.out _) hb'); replace Lb : Hid (Lies _ _ _ _ _ _) := (by first | exact Lies.on Lb.out hb' | exact Lies.on (Lies.alloc Lb.out _) hb'); replace HT : Hid (Tab _) := (by first | exact HT.out.below hb' | exact (HT.out.alloc _).below hb'); replace hA : Hid (Below W.heap.size W _) := (by first | exact below_join hA.out hb' | exact below_join (hA.out.alloc hA.out.size _) hb'); (try clear La0 La1 La2 La3 LaL); have La0 := La.out.c0; have La1 := La.out.c1; have La2 := La.out.c2; have La3 := La.out.c3; have LaL := La.out.lt; (try clear Lb0 Lb1 Lb2 Lb3 LbL); have Lb0 := Lb.out.c0; have Lb1 := Lb.out.c1; have Lb2 := Lb.out.c2; have Lb3 := Lb.out.c3; have LbL := Lb.out.lt; clear hb') | (go_at_call_of 8 (Value.string d1); refine (HI1.out _ HT.out).mono ?_; rintro e w' ⟨rfl, hb'⟩; replace La : Hid (Lies _ _ _ _ _ _) := (by first | exact Lies.on La.out hb' | exact Lies.on (Lies.alloc La.out _) hb'); replace Lb : Hid (Lies _ _ _ _ _ _) := (by first | exact Lies.on Lb.out hb' | exact Lies.on (Lies.alloc Lb.out _) hb'); replace HT : Hid (Tab _) := (by first | exact HT.out.below hb' | exact (HT.out.alloc _).below hb'); replace hA : Hid (Below W.heap.size W _) := (by first | exact below_join hA.out hb' | exact below_join (hA.out.alloc hA.out.size _) hb'); (try clear La0 La1 La2 La3 LaL); have La0 := La.out.c0; have La1 := La.out.c1; have La2 := La.out.c2; have La3 := La.out.c3; have LaL := La.out.lt; (try clear Lb0 Lb1 Lb2 Lb3 LbL); have Lb0 := Lb.out.c0; have Lb1 := Lb.out.c1; have Lb2 := Lb.out.c2; have Lb3 := Lb.out.c3; have LbL := Lb.out.lt; clear hb') | (go_at_call 9; refine (HX0.out _ HT.out).mono ?_; rintro e w' ⟨rfl, hb'⟩; replace La : Hid (Lies _ _ _ _ _ _) := (by first | exact Lies.on La.out hb' | exact Lies.on (Lies.alloc La.out _) hb'); replace Lb : Hid (Lies _ _ _ _ _ _) := (by first | exact Lies.on Lb.out hb' | exact Lies.on (Lies.alloc Lb.out _) hb'); replace HT : Hid (Tab _) := (by first | exact HT.out.below hb' | exact (HT.out.alloc _).below hb'); replace hA : Hid (Below W.heap.size W _) := (by first | exact below_join hA.out hb' | exact below_join (hA.out.alloc hA.out.size _) hb'); (try clear La0 La1 La2 La3 LaL); have La0 := La.out.c0; have La1 := La.out.c1; have La2 := La.out.c2; have La3 := La.out.c3; have LaL := La.out.lt; (try clear Lb0 Lb1 Lb2 Lb3 LbL); have Lb0 := Lb.out.c0; have Lb1 := Lb.out.c1; have Lb2 := Lb.out.c2; have Lb3 := Lb.out.c3; have LbL := Lb.out.lt; clear hb'))
      refine Lw.wp_region_quiet_below (by kernel_rfl) (by kernel_rfl) ?_
      repeat (first
        | go_big_quiet_skip
        | (go_big_quiet_want; go_big_quiet_op; go_big_quiet_on)
        | (go_big_quiet_want; go_big_quiet_op; apply Exists.intro; refine ⟨fun _ hb' => ?_, ?_⟩; (first
          | exact Lw.val_rfl _
          | (go_at_call 9; exact Lw.calls_below hb' (HX1.out _ (HT.out.below hb')))
          | (rw [ite_ff HN.out]; exact ⟨rfl, rfl⟩)
          | (rw [ite_ft HN.out]; exact ⟨rfl, rfl⟩)
          | (rw [ite_tf HN.out]; exact ⟨rfl, rfl⟩)
          | (rw [ite_tt HN.out]; exact ⟨rfl, rfl⟩)
          | (simp [go_sem, (Lies.on La.out hb').c0, (Lies.on La.out hb').c1, (Lies.on La.out hb').c2, (Lies.on La.out hb').c3]; rfl)
          | (simp [go_sem, (Lies.on Lb.out hb').c0, (Lies.on Lb.out hb').c1, (Lies.on Lb.out hb').c2, (Lies.on Lb.out hb').c3]; rfl)); go_big_quiet_on))
      refine wpQuiet_nil ?_
      intro w5 hb5
      have hA5 := below_join hA.out hb5
      go_wp2
      go_ret
      exact ⟨rfl, hA5⟩
    case true.false =>
      have hm := fun W => HM.out W 8 rfl
      have hsz2 : TX.size = 9 + 2 * d0.size := hsz
      skip
      clear hsz HM qr2
      go_enter Tryd.func4, Tryd.ntmps4
      go_wp2_with (first | (go_at_call 5; refine (known3_any _ HT.out).mono ?_; rintro e w' ⟨rfl, hb'⟩; replace La : Hid (Lies _ _ _ _ _ _) := (by first | exact Lies.on La.out hb' | exact Lies.on (Lies.alloc La.out _) hb'); replace Lb : Hid (Lies _ _ _ _ _ _) := (by first | exact Lies.on Lb.out hb' | exact Lies.on (Lies.alloc Lb.out _) hb'); replace HT : Hid (Tab _) := (by first | exact HT.out.below hb' | exact (HT.out.alloc _).below hb'); replace hA : Hid (Below W.heap.size W _) := (by first | exact below_join hA.out hb' | exact below_join (hA.out.alloc hA.out.size _) hb'); (try clear La0 La1 La2 La3 LaL); have La0 := La.out.c0; have La1 := La.out.c1; have La2 := La.out.c2; have La3 := La.out.c3; have LaL := La.out.lt; (try clear Lb0 Lb1 Lb2 Lb3 LbL); have Lb0 := Lb.out.c0; have Lb1 := Lb.out.c1; have Lb2 := Lb.out.c2; have Lb3 := Lb.out.c3; have LbL := Lb.out.lt; clear hb') | (go_at_call 7; refine (few_any _ _ _ _ _).mono ?_; rintro e w' ⟨rfl, hb'⟩; replace La : Hid (Lies _ _ _ _ _ _) := (by first | exact Lies.on La.out hb' | exact Lies.on (Lies.alloc La.out _) hb'); replace Lb : Hid (Lies _ _ _ _ _ _) := (by first | exact Lies.on Lb.out hb' | exact Lies.on (Lies.alloc Lb.out _) hb'); replace HT : Hid (Tab _) := (by first | exact HT.out.below hb' | exact (HT.out.alloc _).below hb'); replace hA : Hid (Below W.heap.size W _) := (by first | exact below_join hA.out hb' | exact below_join (hA.out.alloc hA.out.size _) hb'); (try clear La0 La1 La2 La3 LaL); have La0 := La.out.c0; have La1 := La.out.c1; have La2 := La.out.c2; have La3 := La.out.c3; have LaL := La.out.lt; (try clear Lb0 Lb1 Lb2 Lb3 LbL); have Lb0 := Lb.out.c0; have Lb1 := Lb.out.c1; have Lb2 := Lb.out.c2; have Lb3 := Lb.out.c3; have LbL := Lb.out.lt; clear hb') | (go_at_call_of 8 (Value.string d0); refine (HI0.out _ HT.out).mono ?_; rintro e w' ⟨rfl, hb'⟩; replace La : Hid (Lies _ _ _ _ _ _) := (by first | exact Lies.on La.out hb' | exact Lies.on (Lies.alloc La.out _) hb'); replace Lb : Hid (Lies _ _ _ _ _ _) := (by first | exact Lies.on Lb.out hb' | exact Lies.on (Lies.alloc Lb.out _) hb'); replace HT : Hid (Tab _) := (by first | exact HT.out.below hb' | exact (HT.out.alloc _).below hb'); replace hA : Hid (Below W.heap.size W _) := (by first | exact below_join hA.out hb' | exact below_join (hA.out.alloc hA.out.size _) hb'); (try clear La0 La1 La2 La3 LaL); have La0 := La.out.c0; have La1 := La.out.c1; have La2 := La.out.c2; have La3 := La.out.c3; have LaL := La.out.lt; (try clear Lb0 Lb1 Lb2 Lb3 LbL); have Lb0 := Lb.out.c0; have Lb1 := Lb.out.c1; have Lb2 := Lb.out.c2; have Lb3 := Lb.out.c3; have LbL := Lb.out.lt; clear hb') | (go_at_call_of 8 (Value.string d1); refine (HI1.out _ HT.out).mono ?_; rintro e w' ⟨rfl, hb'⟩; replace La : Hid (Lies _ _ _ _ _ _) := (by first | exact Lies.on La.out hb' | exact Lies.on (Lies.alloc La.out _) hb'); replace Lb : Hid (Lies _ _ _ _ _ _) := (by first | exact Lies.on Lb.out hb' | exact Lies.on (Lies.alloc Lb.out _) hb'); replace HT : Hid (Tab _) := (by first | exact HT.out.below hb' | exact (HT.out.alloc _).below hb'); replace hA : Hid (Below W.heap.size W _) := (by first | exact below_join hA.out hb' | exact below_join (hA.out.alloc hA.out.size _) hb'); (try clear La0 La1 La2 La3 LaL); have La0 := La.out.c0; have La1 := La.out.c1; have La2 := La.out.c2; have La3 := La.out.c3; have LaL := La.out.lt; (try clear Lb0 Lb1 Lb2 Lb3 LbL); have Lb0 := Lb.out.c0; have Lb1 := Lb.out.c1; have Lb2 := Lb.out.c2; have Lb3 := Lb.out.c3; have LbL := Lb.out.lt; clear hb') | (go_at_call 9; refine (HX0.out _ HT.out).mono ?_; rintro e w' ⟨rfl, hb'⟩; replace La : Hid (Lies _ _ _ _ _ _) := (by first | exact Lies.on La.out hb' | exact Lies.on (Lies.alloc La.out _) hb'); replace Lb : Hid (Lies _ _ _ _ _ _) := (by first | exact Lies.on Lb.out hb' | exact Lies.on (Lies.alloc Lb.out _) hb'); replace HT : Hid (Tab _) := (by first | exact HT.out.below hb' | exact (HT.out.alloc _).below hb'); replace hA : Hid (Below W.heap.size W _) := (by first | exact below_join hA.out hb' | exact below_join (hA.out.alloc hA.out.size _) hb'); (try clear La0 La1 La2 La3 LaL); have La0 := La.out.c0; have La1 := La.out.c1; have La2 := La.out.c2; have La3 := La.out.c3; have LaL := La.out.lt; (try clear Lb0 Lb1 Lb2 Lb3 LbL); have Lb0 := Lb.out.c0; have Lb1 := Lb.out.c1; have Lb2 := Lb.out.c2; have Lb3 := Lb.out.c3; have LbL := Lb.out.lt; clear hb'))
      refine Lw.wp_region_quiet_below (by kernel_rfl) (by kernel_rfl) ?_
      repeat (first
        | go_big_quiet_skip
        | (go_big_quiet_want; go_big_quiet_op; go_big_quiet_on)
        | (go_big_quiet_want; go_big_quiet_op; apply Exists.intro; refine ⟨fun _ hb' => ?_, ?_⟩; (first
          | exact Lw.val_rfl _
          | (go_at_call 9; exact Lw.calls_below hb' (HX1.out _ (HT.out.below hb')))
          | (rw [ite_ff HN.out]; exact ⟨rfl, rfl⟩)
          | (rw [ite_ft HN.out]; exact ⟨rfl, rfl⟩)
          | (rw [ite_tf HN.out]; exact ⟨rfl, rfl⟩)
          | (rw [ite_tt HN.out]; exact ⟨rfl, rfl⟩)
          | (simp [go_sem, (Lies.on La.out hb').c0, (Lies.on La.out hb').c1, (Lies.on La.out hb').c2, (Lies.on La.out hb').c3]; rfl)
          | (simp [go_sem, (Lies.on Lb.out hb').c0, (Lies.on Lb.out hb').c1, (Lies.on Lb.out hb').c2, (Lies.on Lb.out hb').c3]; rfl)); go_big_quiet_on))
      refine wpQuiet_nil ?_
      intro w5 hb5
      have hA5 := below_join hA.out hb5
      go_wp2
      go_ret
      exact ⟨rfl, hA5⟩
    case true.true =>
      have hm := fun W => HM.out W 8 rfl
      have hsz2 : TX.size = 9 + 1 := hsz
      have q0 := qr2 rfl
      clear hsz HM qr2
      go_enter Tryd.func4, Tryd.ntmps4
      go_wp2_with (first | (go_at_call 5; refine (known3_any _ HT.out).mono ?_; rintro e w' ⟨rfl, hb'⟩; replace La : Hid (Lies _ _ _ _ _ _) := (by first | exact Lies.on La.out hb' | exact Lies.on (Lies.alloc La.out _) hb'); replace Lb : Hid (Lies _ _ _ _ _ _) := (by first | exact Lies.on Lb.out hb' | exact Lies.on (Lies.alloc Lb.out _) hb'); replace HT : Hid (Tab _) := (by first | exact HT.out.below hb' | exact (HT.out.alloc _).below hb'); replace hA : Hid (Below W.heap.size W _) := (by first | exact below_join hA.out hb' | exact below_join (hA.out.alloc hA.out.size _) hb'); (try clear La0 La1 La2 La3 LaL); have La0 := La.out.c0; have La1 := La.out.c1; have La2 := La.out.c2; have La3 := La.out.c3; have LaL := La.out.lt; (try clear Lb0 Lb1 Lb2 Lb3 LbL); have Lb0 := Lb.out.c0; have Lb1 := Lb.out.c1; have Lb2 := Lb.out.c2; have Lb3 := Lb.out.c3; have LbL := Lb.out.lt; clear hb') | (go_at_call 7; refine (few_any _ _ _ _ _).mono ?_; rintro e w' ⟨rfl, hb'⟩; replace La : Hid (Lies _ _ _ _ _ _) := (by first | exact Lies.on La.out hb' | exact Lies.on (Lies.alloc La.out _) hb'); replace Lb : Hid (Lies _ _ _ _ _ _) := (by first | exact Lies.on Lb.out hb' | exact Lies.on (Lies.alloc Lb.out _) hb'); replace HT : Hid (Tab _) := (by first | exact HT.out.below hb' | exact (HT.out.alloc _).below hb'); replace hA : Hid (Below W.heap.size W _) := (by first | exact below_join hA.out hb' | exact below_join (hA.out.alloc hA.out.size _) hb'); (try clear La0 La1 La2 La3 LaL); have La0 := La.out.c0; have La1 := La.out.c1; have La2 := La.out.c2; have La3 := La.out.c3; have LaL := La.out.lt; (try clear Lb0 Lb1 Lb2 Lb3 LbL); have Lb0 := Lb.out.c0; have Lb1 := Lb.out.c1; have Lb2 := Lb.out.c2; have Lb3 := Lb.out.c3; have LbL := Lb.out.lt; clear hb') | (go_at_call_of 8 (Value.string d0); refine (HI0.out _ HT.out).mono ?_; rintro e w' ⟨rfl, hb'⟩; replace La : Hid (Lies _ _ _ _ _ _) := (by first | exact Lies.on La.out hb' | exact Lies.on (Lies.alloc La.out _) hb'); replace Lb : Hid (Lies _ _ _ _ _ _) := (by first | exact Lies.on Lb.out hb' | exact Lies.on (Lies.alloc Lb.out _) hb'); replace HT : Hid (Tab _) := (by first | exact HT.out.below hb' | exact (HT.out.alloc _).below hb'); replace hA : Hid (Below W.heap.size W _) := (by first | exact below_join hA.out hb' | exact below_join (hA.out.alloc hA.out.size _) hb'); (try clear La0 La1 La2 La3 LaL); have La0 := La.out.c0; have La1 := La.out.c1; have La2 := La.out.c2; have La3 := La.out.c3; have LaL := La.out.lt; (try clear Lb0 Lb1 Lb2 Lb3 LbL); have Lb0 := Lb.out.c0; have Lb1 := Lb.out.c1; have Lb2 := Lb.out.c2; have Lb3 := Lb.out.c3; have LbL := Lb.out.lt; clear hb') | (go_at_call_of 8 (Value.string d1); refine (HI1.out _ HT.out).mono ?_; rintro e w' ⟨rfl, hb'⟩; replace La : Hid (Lies _ _ _ _ _ _) := (by first | exact Lies.on La.out hb' | exact Lies.on (Lies.alloc La.out _) hb'); replace Lb : Hid (Lies _ _ _ _ _ _) := (by first | exact Lies.on Lb.out hb' | exact Lies.on (Lies.alloc Lb.out _) hb'); replace HT : Hid (Tab _) := (by first | exact HT.out.below hb' | exact (HT.out.alloc _).below hb'); replace hA : Hid (Below W.heap.size W _) := (by first | exact below_join hA.out hb' | exact below_join (hA.out.alloc hA.out.size _) hb'); (try clear La0 La1 La2 La3 LaL); have La0 := La.out.c0; have La1 := La.out.c1; have La2 := La.out.c2; have La3 := La.out.c3; have LaL := La.out.lt; (try clear Lb0 Lb1 Lb2 Lb3 LbL); have Lb0 := Lb.out.c0; have Lb1 := Lb.out.c1; have Lb2 := Lb.out.c2; have Lb3 := Lb.out.c3; have LbL := Lb.out.lt; clear hb') | (go_at_call 9; refine (HX0.out _ HT.out).mono ?_; rintro e w' ⟨rfl, hb'⟩; replace La : Hid (Lies _ _ _ _ _ _) := (by first | exact Lies.on La.out hb' | exact Lies.on (Lies.alloc La.out _) hb'); replace Lb : Hid (Lies _ _ _ _ _ _) := (by first | exact Lies.on Lb.out hb' | exact Lies.on (Lies.alloc Lb.out _) hb'); replace HT : Hid (Tab _) := (by first | exact HT.out.below hb' | exact (HT.out.alloc _).below hb'); replace hA : Hid (Below W.heap.size W _) := (by first | exact below_join hA.out hb' | exact below_join (hA.out.alloc hA.out.size _) hb'); (try clear La0 La1 La2 La3 LaL); have La0 := La.out.c0; have La1 := La.out.c1; have La2 := La.out.c2; have La3 := La.out.c3; have LaL := La.out.lt; (try clear Lb0 Lb1 Lb2 Lb3 LbL); have Lb0 := Lb.out.c0; have Lb1 := Lb.out.c1; have Lb2 := Lb.out.c2; have Lb3 := Lb.out.c3; have LbL := Lb.out.lt; clear hb'))
      refine Lw.wp_region_quiet_below (by kernel_rfl) (by kernel_rfl) ?_
      repeat (first
        | go_big_quiet_skip
        | (go_big_quiet_want; go_big_quiet_op; go_big_quiet_on)
        | (go_big_quiet_want; go_big_quiet_op; apply Exists.intro; refine ⟨fun _ hb' => ?_, ?_⟩; (first
          | exact Lw.val_rfl _
          | (go_at_call 9; exact Lw.calls_below hb' (HX1.out _ (HT.out.below hb')))
          | (rw [ite_ff HN.out]; exact ⟨rfl, rfl⟩)
          | (rw [ite_ft HN.out]; exact ⟨rfl, rfl⟩)
          | (rw [ite_tf HN.out]; exact ⟨rfl, rfl⟩)
          | (rw [ite_tt HN.out]; exact ⟨rfl, rfl⟩)
          | (simp [go_sem, (Lies.on La.out hb').c0, (Lies.on La.out hb').c1, (Lies.on La.out hb').c2, (Lies.on La.out hb').c3]; rfl)
          | (simp [go_sem, (Lies.on Lb.out hb').c0, (Lies.on Lb.out hb').c1, (Lies.on Lb.out hb').c2, (Lies.on Lb.out hb').c3]; rfl)); go_big_quiet_on))
      refine wpQuiet_nil ?_
      intro w5 hb5
      have hA5 := below_join hA.out hb5
      go_wp2
      go_ret
      exact ⟨rfl, hA5⟩
theorem walk (x0 : Bool) (n0 : Int) (r0 : Bool) (d0 : ByteArray) (w0 : (Lit.int .u32 n0).wf = true) (u0 : d0.size ≤ maxLen) (x1 : Bool) (n1 : Int) (r1 : Bool) (d1 : ByteArray) (w1 : (Lit.int .u32 n1).wf = true) (u1 : d1.size ≤ maxLen) (W : World) (hT : Tab W) :
    Calls Tryd.prog 4 #[.agg #[.bool x0, .int .u32 n0, .bool r0, .string d0], .agg #[.bool x1, .int .u32 n1, .bool r1, .string d1]] W fun e w' => e = .returned (.bool true) ∧ Below W.heap.size W w' := by
  obtain ⟨m0, rfl, h0⟩ := u32_nat w0
  obtain ⟨m1, rfl, h1⟩ := u32_nat w1
  exact walkN x0 m0 r0 d0 h0 x1 m1 r1 d1 h1 W hT
theorem own : ownKnob Tryd.prog.godebug = none := by kernel_rfl
theorem contract (H : Type) (enc : TypeId × Value → H) (W : World) (base : Nat) (args : Array Value) (ds gs : List (DataW H)) (before : List MemPlace)
    (hval0 : ∀ (j : Nat) t v, Tryd.f4.params[j]? = some t → args[j]? = some v → Value.okWide Tryd.prog W .any base t v)
    (hW : DataW.Whole enc Tryd.prog Tryd.f4.params.toList Rows.frameTextsSpec.vars false W args.toList ds gs before) (hL : laidMetH Tryd.prog Rows.frameTextsRow.laid W) :
    Calls Tryd.prog 4 args W fun e W' => ∃ v, e = .returned v ∧ Rows.frameTextsSpec.post enc Tryd.prog Tryd.f4 false true false false W args v W' := by
  have hval : ∀ (j : Nat) t v, Tryd.f4.params[j]? = some t → args[j]? = some v → Value.okWide Tryd.prog W .any base t v := hval0
  have hW' := hW
  obtain ⟨p, q, hA0, hV, rfl, hfz, hnd⟩ := hW
  have hA : DataW.TrodAll enc Tryd.prog W 0 (fun _ => true) true Tryd.f4.params.toList args.toList ds p := hA0
  rw [Tryd.params4] at hA hval
  obtain ⟨v0, vs0, d0, ds0, p0, q0, hargs, rfl, rfl, h0, rr0⟩ := trodAll_cons hA
  obtain ⟨v1, vs1, d1, ds1, p1, q1, rfl, rfl, rfl, h1, rr1⟩ := trodAll_cons rr0
  obtain ⟨rfl, rfl, rfl⟩ := trodAll_nil rr1
  obtain rfl : args = #[v0, v1] := by cases args; simp_all
  obtain ⟨rfl, rfl⟩ := trodVars_none hV
  obtain ⟨e0, e1, e2, e3, y0, y1, y2, y3, n0, rfl, rfl, rfl, k0, k1, k2, k3⟩ := Joins.open_agg4 Tryd.underlying25 (by kernel_rfl) (by kernel_rfl) (hval 0 25 v0 rfl rfl) h0
  obtain ⟨x0, hx0, rfl⟩ := DataW.trod_bool Tryd.underlying4 k0
  obtain ⟨n0, hx1, rfl, w0⟩ := DataW.trod_int Tryd.underlying22 k1
  obtain ⟨r0, hx2, rfl⟩ := DataW.trod_bool Tryd.underlying4 k2
  obtain ⟨d0, hx3, rfl, u0⟩ := DataW.trod_string Tryd.underlying9 k3
  obtain rfl := List.singleton_inj.1 hx0
  obtain rfl := List.singleton_inj.1 hx1
  obtain rfl := List.singleton_inj.1 hx2
  obtain rfl := List.singleton_inj.1 hx3
  clear k0 k1 k2 k3 hx0 hx1 hx2 hx3
  obtain ⟨e0, e1, e2, e3, y0, y1, y2, y3, n1, rfl, rfl, rfl, k0, k1, k2, k3⟩ := Joins.open_agg4 Tryd.underlying25 (by kernel_rfl) (by kernel_rfl) (hval 1 25 v1 rfl rfl) h1
  obtain ⟨x1, hx0, rfl⟩ := DataW.trod_bool Tryd.underlying4 k0
  obtain ⟨n1, hx1, rfl, w1⟩ := DataW.trod_int Tryd.underlying22 k1
  obtain ⟨r1, hx2, rfl⟩ := DataW.trod_bool Tryd.underlying4 k2
  obtain ⟨d1, hx3, rfl, u1⟩ := DataW.trod_string Tryd.underlying9 k3
  obtain rfl := List.singleton_inj.1 hx0
  obtain rfl := List.singleton_inj.1 hx1
  obtain rfl := List.singleton_inj.1 hx2
  obtain rfl := List.singleton_inj.1 hx3
  clear k0 k1 k2 k3 hx0 hx1 hx2 hx3
  clear hA0 hval0
  refine (walk x0 n0 r0 d0 w0 u0 x1 n1 r1 d1 w1 u1 W (tab_of_laid hL)).mono fun e W' ⟨he, bel⟩ => ?_
  subst he
  exact ⟨_, rfl, _, _, _, [], _, [], hW', trodAll_mk1 (shut_bool Tryd.underlying4 _), (trodAll_cons_mk (shut_frame w0 u0) (trodAll_cons_mk (shut_frame w1 u1) trodAll_mk0)), rfl, bel.frame _, fun h => by cases h⟩
theorem laid_met (os : Os) : laidMet Tryd.prog Rows.frameTextsRow.laid ((tabWorld os).forCall (fun _ _ => 0) ⟨#[], #[.agg #[.bool false, .int .u32 0, .bool false, .string ByteArray.empty], .agg #[.bool false, .int .u32 0, .bool false, .string ByteArray.empty]], []⟩).memory :=
  laidMet_of_run' 8 (by kernel_rfl) (by kernel_rfl)
theorem reads (os : Os) {H : Type} (enc : TypeId × Value → H) : ∃ places, DataW.whole enc Tryd.prog ((tabWorld os).forCall (fun _ _ => 0) ⟨#[], #[.agg #[.bool false, .int .u32 0, .bool false, .string ByteArray.empty], .agg #[.bool false, .int .u32 0, .bool false, .string ByteArray.empty]], []⟩).memory Tryd.f4.params.toList Rows.frameTextsSpec.vars false #[Value.agg #[.bool false, .int .u32 0, .bool false, .string ByteArray.empty], .agg #[.bool false, .int .u32 0, .bool false, .string ByteArray.empty]].toList 8 = some ([.agg [.lit (.bool false), .lit (.int .u32 0), .lit (.bool false), .lit (.string [])], .agg [.lit (.bool false), .lit (.int .u32 0), .lit (.bool false), .lit (.string [])]], [], places) :=
  ⟨[], by kernel_rfl⟩
set_option maxRecDepth 100000 in
theorem lifted (os : Os) (started : os.Started) (H : Type) (enc : TypeId × Value → H) (F : Stop.Interp) :
    ReturnsInHanded {} Tryd.checked os 4 .any ((OpenSpec.ofChange Rows.frameTextsSpec).preRow enc Tryd.prog Tryd.f4 Rows.frameTextsRow.domain false Rows.frameTextsRow.laid) (((OpenSpec.ofChange Rows.frameTextsSpec).at F).post enc Tryd.prog Tryd.f4 false true false false) := by
  obtain ⟨places, hx⟩ := reads os enc
  refine returnsInHanded_of_row (C := Tryd.checked) (s := OpenSpec.ofChange Rows.frameTextsSpec) own started (by kernel_rfl) Tryd.func4
    (witness_row_at (enc := enc) (C := Tryd.checked) false (tabWorld os) #[.agg #[.bool false, .int .u32 0, .bool false, .string ByteArray.empty], .agg #[.bool false, .int .u32 0, .bool false, .string ByteArray.empty]] rfl (by kernel_rfl) (by kernel_rfl) (by kernel_rfl)
      (OpenSpec.preRow_of_cond 8 hx (by kernel_rfl) (fun k hk => by cases hk) (by kernel_rfl) (laid_met os))) ?_
  intro W base args ds gs before hval hW _ _ _ hL _ _
  exact contract H enc W base args ds gs before hval hW hL
theorem said : Rows.FrameTextsSaid :=
  OpenClaim.holds_of_cond 4 Tryd.f4 rfl rfl rfl rfl rfl rfl rfl ⟨rfl, rfl, rfl, rfl, rfl⟩ rfl rfl rfl rfl rfl (by kernel_rfl) Tryd.func4 (by kernel_rfl)
    (of_decide_eq_true (by kernel_rfl)) (by unfold Func.isWrapper; first | (rw [if_pos (by decide +kernel)]; kernel_rfl) | (rw [if_neg (by decide +kernel)]; exact ⟨rfl, rfl⟩))
    (fun os started H enc _ F => by rw [OpenClaim.pre_eq_preRow]; exact lifted os started H enc F)
theorem plain (f : FuncId) (fn : Func) (hf : Tryd.pinned.checked.prog.funcNamed "ostinato/ostinatolaw3.FrameTexts" = some f) (hfn : Tryd.pinned.checked.prog.funcs[f]? = some fn) :
    false = Tryd.pinned.checked.prog.looks [] ∧ ∀ (j : Nat) t, fn.params[j]? = some t → Tryd.pinned.checked.prog.wantsStandIn t = false := by
  obtain rfl : f = 4 := Option.some.inj ((show Tryd.prog.funcNamed "ostinato/ostinatolaw3.FrameTexts" = some 4 by kernel_rfl).symm.trans hf) |>.symm
  obtain rfl : fn = Tryd.f4 := (Option.some.inj (Tryd.func4.symm.trans hfn)).symm
  refine ⟨by kernel_rfl, fun j t ht => ?_⟩
  rw [Tryd.params4] at ht
  have hm : t ∈ [25, 25] := by simpa using Array.mem_of_getElem? ht
  have hall : ([25, 25].all fun u => !Tryd.prog.wantsStandIn u) = true := by kernel_rfl
  exact (show Tryd.prog.wantsStandIn t = false by simpa using List.all_eq_true.1 hall t hm)
end Go.Proofs.YtfnbkehabadpmabDoor.frameTexts
namespace Go.Proofs.YtfnbkehabadpmabDoor
/-- The statement. -/
theorem frameTexts_holds : Rows.FrameTextsCardSaid :=
  Claim7.holds_tied_plain_at .later [] _ _ _ _ frameTexts.said (fun _ h => by cases h) (by kernel_rfl) (fun _ h => by cases h) frameTexts_row_tie rfl ⟨rfl, rfl⟩ (by kernel_rfl) rfl frameTexts.plain (by kernel_rfl)
#print axioms frameTexts_holds
end Go.Proofs.YtfnbkehabadpmabDoor
