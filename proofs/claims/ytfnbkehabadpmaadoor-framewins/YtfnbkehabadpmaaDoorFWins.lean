/- FrameWins: on a wire where 0 wins the one that loses sees another bit than its own at the first one at which they differ, and the winner none. No condition but the row's own: the table of widths holds what the program's text lays. -/
import Derived.Test.YtfnbkehabadpmaaDoorGl
import Derived.Test.YtfnbkehabadpmaaDoorQa
namespace Go.Proofs.YtfnbkehabadpmaaDoor.frameWins
open Go.ChangeShapes Go.WideShapes Go.ChangeAt Go.RowKit
open Go.ChangeMaps (open_string shut_string)
set_option linter.unusedVariables false
theorem split (X : List Bool) : ∀ Y, Fm.cmpB X Y ≠ 0 → ∃ d : Nat, ∃ (hx : d < X.length) (hy : d < Y.length), X.take d = Y.take d ∧ X[d] ≠ Y[d] ∧ Fm.cmpB X Y = (if X[d] then 1 else -1) := by
  induction X with
  | nil => intro Y h; exact absurd rfl h
  | cons a s ih =>
    intro Y h
    cases Y with
    | nil => exact absurd rfl h
    | cons b t =>
      by_cases hab : a = b
      · subst hab
        have e : Fm.cmpB (a :: s) (a :: t) = Fm.cmpB s t := by show (if a = a then Fm.cmpB s t else if a then 1 else -1) = _; rw [if_pos rfl]
        rw [e] at h
        obtain ⟨d, hx, hy, h1, h2, h3⟩ := ih t h
        exact ⟨d + 1, by simpa using hx, by simpa using hy, by simp [h1], by simpa using h2, by rw [e]; simpa using h3⟩
      · refine ⟨0, by simp, by simp, rfl, by simpa using hab, ?_⟩
        show (if a = b then Fm.cmpB s t else if a then 1 else -1) = _
        rw [if_neg hab]
        rfl
theorem read_front (bs : List Bool) (k : Nat) : Bm.read ((ByteArray.mk (Bm.row bs).toArray).extract 0 k).data.toList = bs.take k := by
  rw [Fm.read_extract]
  show Fm.cut (Bm.read (Bm.row bs)) 0 (k - 0) = _
  rw [Bm.read_row, Nat.sub_zero]
  rfl
theorem ext_front (bs : List Bool) (k : Nat) : (ByteArray.mk (Bm.row bs).toArray).extract 0 k = ByteArray.mk (Bm.row (bs.take k)).toArray := by
  apply ByteArray.ext
  apply Array.toList_inj.1
  rw [Lib.extract_data]
  show List.take (k - 0) (List.drop 0 (Bm.row bs)) = Bm.row (bs.take k)
  rw [List.drop_zero, Nat.sub_zero]
  unfold Bm.row
  rw [List.map_take]
theorem both_self (l : List Bool) : Bm.both l l = l := by
  unfold Bm.both
  induction l with
  | nil => rfl
  | cons a t ih => simp only [List.zipWith_cons_cons, Bool.and_self, ih]
theorem both_snoc (l : List Bool) (a b : Bool) : Bm.both (l ++ [a]) (l ++ [b]) = l ++ [a && b] := by
  have h := both_self l
  unfold Bm.both at *
  rw [List.zipWith_append rfl, h]
  rfl
theorem row_inj {a b : List Bool} (h : ByteArray.mk (Bm.row a).toArray = ByteArray.mk (Bm.row b).toArray) : a = b := by
  have h2 : Bm.row a = Bm.row b := by
    have := congrArg (fun z : ByteArray => z.data.toList) h
    simpa using this
  have := congrArg Bm.read h2
  rwa [Bm.read_row, Bm.read_row] at this
theorem row_at (bs : List Bool) (k : Nat) (h : k < (ByteArray.mk (Bm.row bs).toArray).size) (h2 : k < bs.length) : (ByteArray.mk (Bm.row bs).toArray)[k] = Bm.sign bs[k] := by
  show (Bm.row bs).toArray[k]'(by simpa [Bm.length_row] using h2) = _
  simp [Bm.row]
theorem sign_eq (a b : Bool) : (((Bm.sign a).toNat : Int) == ((Bm.sign b).toNat : Int)) = (a == b) := by cases a <;> cases b <;> decide
theorem slice_front (s : ByteArray) (k : Nat) (x : Int) (hx : x = (k : Int)) (hk : k ≤ s.size) (W : World) :
    (Instr.slice 9 (.string s) none (some (.int .i64 x)) none).run Tryd.prog W = .ok (.string (s.extract 0 k)) W := by
  subst hx
  rw [run_slice_string_h (P := Tryd.prog) W 9 _ Tryd.underlying9 .i64 (k : Int) (by omega) (by omega)]
  simp
theorem toList_ne {a b : ByteArray} (h : a ≠ b) : (a.toList == b.toList) = false := by
  rw [beq_eq_false_iff_ne]
  intro e
  apply h
  rw [ByteArray.toList_eq, ByteArray.toList_eq] at e
  apply ByteArray.ext
  exact Array.toList_inj.1 e
theorem arb_len (x : Bool) (n : Nat) (r : Bool) (d : List UInt8) : (Fm.arb x n r d).length ≤ 33 := by
  unfold Fm.arb
  split
  · rw [Fm.length_arb0]; split <;> omega
  · simp
theorem below_drewN {B : Nat} {a b : World} (h : Below B a b) (n : Nat) : Below B a (b.drewN n) := h.trans ⟨rfl, rfl, rfl, Nat.le_refl _, fun _ _ => rfl⟩
/-- What there is of the two rows: where they part, and what both drive there. -/
structure Parts (A B : ByteArray) (K : Int) (d : Nat) : Prop where
  la : d < A.size
  lb : d < B.size
  same : ∀ j (h : j < d), (((A[j]'(Nat.lt_trans h la)).toNat : Int) == ((B[j]'(Nat.lt_trans h lb)).toNat : Int)) = true
  diff : (((A[d]'la).toNat : Int) == ((B[d]'lb).toNat : Int)) = false
  ne : A.extract 0 (d + 1) ≠ B.extract 0 (d + 1)
theorem parts (X Y : List Bool) (h : Fm.cmpB X Y ≠ 0) : ∃ d, Parts ⟨(Bm.row X).toArray⟩ ⟨(Bm.row Y).toArray⟩ (Fm.cmpB X Y) d ∧ (Fm.cmpB X Y = -1 ∧ Bm.row (Bm.both (X.take (d + 1)) (Y.take (d + 1))) = Bm.row (X.take (d + 1)) ∨ Fm.cmpB X Y = 1 ∧ Bm.row (Bm.both (X.take (d + 1)) (Y.take (d + 1))) = Bm.row (Y.take (d + 1))) := by
  obtain ⟨d, hx, hy, h1, h2, h3⟩ := split X Y h
  have sx : (ByteArray.mk (Bm.row X).toArray).size = X.length := by rw [size_str, Bm.length_row]
  have sy : (ByteArray.mk (Bm.row Y).toArray).size = Y.length := by rw [size_str, Bm.length_row]
  have tx : X.take (d + 1) = X.take d ++ [X[d]] := List.take_succ_eq_append_getElem hx
  have ty : Y.take (d + 1) = X.take d ++ [Y[d]] := by rw [h1]; exact List.take_succ_eq_append_getElem hy
  refine ⟨d, ⟨by omega, by omega, fun j hj => ?_, ?_, ?_⟩, ?_⟩
  · rw [row_at X j _ (by omega), row_at Y j _ (by omega), sign_eq]
    have e : X[j]? = Y[j]? := by
      have := congrArg (·[j]?) h1
      simpa [List.getElem?_take_of_lt hj] using this
    rw [List.getElem?_eq_getElem (by omega), List.getElem?_eq_getElem (by omega)] at e
    have e2 := Option.some.inj e
    rw [e2]
    simp
  · rw [row_at X d _ hx, row_at Y d _ hy, sign_eq]
    simpa using h2
  · rw [ext_front, ext_front]
    intro e
    have := row_inj e
    rw [tx, ty] at this
    have := List.append_cancel_left this
    simp at this
    exact h2 this
  · rw [tx, ty, both_snoc, h3]
    cases hX : X[d]
    · exact Or.inl ⟨rfl, rfl⟩
    · have hY : Y[d] = false := by cases hy2 : Y[d]; rfl; exact absurd (hX.trans hy2.symm) h2
      rw [hY]
      exact Or.inr ⟨rfl, rfl⟩
set_option maxRecDepth 100000 in
set_option maxHeartbeats 4000000 in
theorem walkN (x0 : Bool) (n0 : Nat) (r0 : Bool) (d0 : ByteArray) (h0 : n0 < 4294967296) (x1 : Bool) (n1 : Nat) (r1 : Bool) (d1 : ByteArray) (h1 : n1 < 4294967296) (W : World) (hT : Tab W) :
    Calls Tryd.prog 7 #[.agg #[.bool x0, .int .u32 n0, .bool r0, .string d0], .agg #[.bool x1, .int .u32 n1, .bool r1, .string d1]] W fun e w' => e = .returned (.bool true) ∧ Below W.heap.size W w' := by
  have HI0 : Hid (∀ w, Tab w → Calls Tryd.prog 11 #[.agg #[.bool x0, .int .u32 n0, .bool r0, .string d0]] w fun e w' => e = .returned (.bool (Fm.isF x0 n0 r0 d0.data.toList)) ∧ Below w.heap.size w w') := fun w hT => fIs_any x0 n0 r0 d0 w hT
  have HI1 : Hid (∀ w, Tab w → Calls Tryd.prog 11 #[.agg #[.bool x1, .int .u32 n1, .bool r1, .string d1]] w fun e w' => e = .returned (.bool (Fm.isF x1 n1 r1 d1.data.toList)) ∧ Below w.heap.size w w') := fun w hT => fIs_any x1 n1 r1 d1 w hT
  have HT : Hid (Tab _) := (hT.alloc (.cells #[.bool x0, .int .u32 n0, .bool r0, .string d0] 24)).alloc (.cells #[.bool x1, .int .u32 n1, .bool r1, .string d1] 24)
  have hA : Hid (Below W.heap.size W _) := ((Below.refl _ _).alloc (Nat.le_refl _) (.cells #[.bool x0, .int .u32 n0, .bool r0, .string d0] 24)).alloc (by simp) (.cells #[.bool x1, .int .u32 n1, .bool r1, .string d1] 24)
  have La : Hid (Lies _ _ _ _ _ _) := (Lies.new W x0 n0 r0 d0).alloc (.cells #[.bool x1, .int .u32 n1, .bool r1, .string d1] 24)
  have Lb : Hid (Lies _ _ _ _ _ _) := Lies.new1 W (.cells #[.bool x0, .int .u32 n0, .bool r0, .string d0] 24) x1 n1 r1 d1
  clear hT
  cases f0 : decide ((d0.size : Int) ≤ 20)
  case false =>
    go_enter Tryd.func7, Tryd.ntmps7
    go_wp2_with (first | (go_at_call 9; refine (known3_any _ HT.out).mono ?_; rintro e w' ⟨rfl, hb'⟩; replace La : Hid (Lies _ _ _ _ _ _) := (by first | exact Lies.on La.out hb' | exact Lies.on (Lies.alloc La.out _) hb'); replace Lb : Hid (Lies _ _ _ _ _ _) := (by first | exact Lies.on Lb.out hb' | exact Lies.on (Lies.alloc Lb.out _) hb'); replace HT : Hid (Tab _) := (by first | exact HT.out.below hb' | exact (HT.out.alloc _).below hb'); replace hA : Hid (Below W.heap.size W _) := (by first | exact below_join hA.out hb' | exact below_join (hA.out.alloc hA.out.size _) hb'); (try clear La0 La1 La2 La3 LaL); have La0 := La.out.c0; have La1 := La.out.c1; have La2 := La.out.c2; have La3 := La.out.c3; have LaL := La.out.lt; (try clear Lb0 Lb1 Lb2 Lb3 LbL); have Lb0 := Lb.out.c0; have Lb1 := Lb.out.c1; have Lb2 := Lb.out.c2; have Lb3 := Lb.out.c3; have LbL := Lb.out.lt; clear hb') | (go_at_call 10; refine (few_any _ _ _ _ _).mono ?_; rintro e w' ⟨rfl, hb'⟩; replace La : Hid (Lies _ _ _ _ _ _) := (by first | exact Lies.on La.out hb' | exact Lies.on (Lies.alloc La.out _) hb'); replace Lb : Hid (Lies _ _ _ _ _ _) := (by first | exact Lies.on Lb.out hb' | exact Lies.on (Lies.alloc Lb.out _) hb'); replace HT : Hid (Tab _) := (by first | exact HT.out.below hb' | exact (HT.out.alloc _).below hb'); replace hA : Hid (Below W.heap.size W _) := (by first | exact below_join hA.out hb' | exact below_join (hA.out.alloc hA.out.size _) hb'); (try clear La0 La1 La2 La3 LaL); have La0 := La.out.c0; have La1 := La.out.c1; have La2 := La.out.c2; have La3 := La.out.c3; have LaL := La.out.lt; (try clear Lb0 Lb1 Lb2 Lb3 LbL); have Lb0 := Lb.out.c0; have Lb1 := Lb.out.c1; have Lb2 := Lb.out.c2; have Lb3 := Lb.out.c3; have LbL := Lb.out.lt; clear hb') | (go_at_call_of 11 (Value.agg #[.bool x0, .int .u32 (n0 : Int), .bool r0, .string d0]); refine (HI0.out _ HT.out).mono ?_; rintro e w' ⟨rfl, hb'⟩; replace La : Hid (Lies _ _ _ _ _ _) := (by first | exact Lies.on La.out hb' | exact Lies.on (Lies.alloc La.out _) hb'); replace Lb : Hid (Lies _ _ _ _ _ _) := (by first | exact Lies.on Lb.out hb' | exact Lies.on (Lies.alloc Lb.out _) hb'); replace HT : Hid (Tab _) := (by first | exact HT.out.below hb' | exact (HT.out.alloc _).below hb'); replace hA : Hid (Below W.heap.size W _) := (by first | exact below_join hA.out hb' | exact below_join (hA.out.alloc hA.out.size _) hb'); (try clear La0 La1 La2 La3 LaL); have La0 := La.out.c0; have La1 := La.out.c1; have La2 := La.out.c2; have La3 := La.out.c3; have LaL := La.out.lt; (try clear Lb0 Lb1 Lb2 Lb3 LbL); have Lb0 := Lb.out.c0; have Lb1 := Lb.out.c1; have Lb2 := Lb.out.c2; have Lb3 := Lb.out.c3; have LbL := Lb.out.lt; clear hb') | (go_at_call_of 11 (Value.agg #[.bool x1, .int .u32 (n1 : Int), .bool r1, .string d1]); refine (HI1.out _ HT.out).mono ?_; rintro e w' ⟨rfl, hb'⟩; replace La : Hid (Lies _ _ _ _ _ _) := (by first | exact Lies.on La.out hb' | exact Lies.on (Lies.alloc La.out _) hb'); replace Lb : Hid (Lies _ _ _ _ _ _) := (by first | exact Lies.on Lb.out hb' | exact Lies.on (Lies.alloc Lb.out _) hb'); replace HT : Hid (Tab _) := (by first | exact HT.out.below hb' | exact (HT.out.alloc _).below hb'); replace hA : Hid (Below W.heap.size W _) := (by first | exact below_join hA.out hb' | exact below_join (hA.out.alloc hA.out.size _) hb'); (try clear La0 La1 La2 La3 LaL); have La0 := La.out.c0; have La1 := La.out.c1; have La2 := La.out.c2; have La3 := La.out.c3; have LaL := La.out.lt; (try clear Lb0 Lb1 Lb2 Lb3 LbL); have Lb0 := Lb.out.c0; have Lb1 := Lb.out.c1; have Lb2 := Lb.out.c2; have Lb3 := Lb.out.c3; have LbL := Lb.out.lt; clear hb'))
    go_ret
    exact ⟨rfl, hA.out⟩
  cases f1 : decide ((d1.size : Int) ≤ 20)
  case false =>
    go_enter Tryd.func7, Tryd.ntmps7
    go_wp2_with (first | (go_at_call 9; refine (known3_any _ HT.out).mono ?_; rintro e w' ⟨rfl, hb'⟩; replace La : Hid (Lies _ _ _ _ _ _) := (by first | exact Lies.on La.out hb' | exact Lies.on (Lies.alloc La.out _) hb'); replace Lb : Hid (Lies _ _ _ _ _ _) := (by first | exact Lies.on Lb.out hb' | exact Lies.on (Lies.alloc Lb.out _) hb'); replace HT : Hid (Tab _) := (by first | exact HT.out.below hb' | exact (HT.out.alloc _).below hb'); replace hA : Hid (Below W.heap.size W _) := (by first | exact below_join hA.out hb' | exact below_join (hA.out.alloc hA.out.size _) hb'); (try clear La0 La1 La2 La3 LaL); have La0 := La.out.c0; have La1 := La.out.c1; have La2 := La.out.c2; have La3 := La.out.c3; have LaL := La.out.lt; (try clear Lb0 Lb1 Lb2 Lb3 LbL); have Lb0 := Lb.out.c0; have Lb1 := Lb.out.c1; have Lb2 := Lb.out.c2; have Lb3 := Lb.out.c3; have LbL := Lb.out.lt; clear hb') | (go_at_call 10; refine (few_any _ _ _ _ _).mono ?_; rintro e w' ⟨rfl, hb'⟩; replace La : Hid (Lies _ _ _ _ _ _) := (by first | exact Lies.on La.out hb' | exact Lies.on (Lies.alloc La.out _) hb'); replace Lb : Hid (Lies _ _ _ _ _ _) := (by first | exact Lies.on Lb.out hb' | exact Lies.on (Lies.alloc Lb.out _) hb'); replace HT : Hid (Tab _) := (by first | exact HT.out.below hb' | exact (HT.out.alloc _).below hb'); replace hA : Hid (Below W.heap.size W _) := (by first | exact below_join hA.out hb' | exact below_join (hA.out.alloc hA.out.size _) hb'); (try clear La0 La1 La2 La3 LaL); have La0 := La.out.c0; have La1 := La.out.c1; have La2 := La.out.c2; have La3 := La.out.c3; have LaL := La.out.lt; (try clear Lb0 Lb1 Lb2 Lb3 LbL); have Lb0 := Lb.out.c0; have Lb1 := Lb.out.c1; have Lb2 := Lb.out.c2; have Lb3 := Lb.out.c3; have LbL := Lb.out.lt; clear hb') | (go_at_call_of 11 (Value.agg #[.bool x0, .int .u32 (n0 : Int), .bool r0, .string d0]); refine (HI0.out _ HT.out).mono ?_; rintro e w' ⟨rfl, hb'⟩; replace La : Hid (Lies _ _ _ _ _ _) := (by first | exact Lies.on La.out hb' | exact Lies.on (Lies.alloc La.out _) hb'); replace Lb : Hid (Lies _ _ _ _ _ _) := (by first | exact Lies.on Lb.out hb' | exact Lies.on (Lies.alloc Lb.out _) hb'); replace HT : Hid (Tab _) := (by first | exact HT.out.below hb' | exact (HT.out.alloc _).below hb'); replace hA : Hid (Below W.heap.size W _) := (by first | exact below_join hA.out hb' | exact below_join (hA.out.alloc hA.out.size _) hb'); (try clear La0 La1 La2 La3 LaL); have La0 := La.out.c0; have La1 := La.out.c1; have La2 := La.out.c2; have La3 := La.out.c3; have LaL := La.out.lt; (try clear Lb0 Lb1 Lb2 Lb3 LbL); have Lb0 := Lb.out.c0; have Lb1 := Lb.out.c1; have Lb2 := Lb.out.c2; have Lb3 := Lb.out.c3; have LbL := Lb.out.lt; clear hb') | (go_at_call_of 11 (Value.agg #[.bool x1, .int .u32 (n1 : Int), .bool r1, .string d1]); refine (HI1.out _ HT.out).mono ?_; rintro e w' ⟨rfl, hb'⟩; replace La : Hid (Lies _ _ _ _ _ _) := (by first | exact Lies.on La.out hb' | exact Lies.on (Lies.alloc La.out _) hb'); replace Lb : Hid (Lies _ _ _ _ _ _) := (by first | exact Lies.on Lb.out hb' | exact Lies.on (Lies.alloc Lb.out _) hb'); replace HT : Hid (Tab _) := (by first | exact HT.out.below hb' | exact (HT.out.alloc _).below hb'); replace hA : Hid (Below W.heap.size W _) := (by first | exact below_join hA.out hb' | exact below_join (hA.out.alloc hA.out.size _) hb'); (try clear La0 La1 La2 La3 LaL); have La0 := La.out.c0; have La1 := La.out.c1; have La2 := La.out.c2; have La3 := La.out.c3; have LaL := La.out.lt; (try clear Lb0 Lb1 Lb2 Lb3 LbL); have Lb0 := Lb.out.c0; have Lb1 := Lb.out.c1; have Lb2 := Lb.out.c2; have Lb3 := Lb.out.c3; have LbL := Lb.out.lt; clear hb'))
    go_ret
    exact ⟨rfl, hA.out⟩
  cases i0 : Fm.isF x0 n0 r0 d0.data.toList
  all_goals rw [i0] at HI0
  case false =>
    go_enter Tryd.func7, Tryd.ntmps7
    go_wp2_with (first | (go_at_call 9; refine (known3_any _ HT.out).mono ?_; rintro e w' ⟨rfl, hb'⟩; replace La : Hid (Lies _ _ _ _ _ _) := (by first | exact Lies.on La.out hb' | exact Lies.on (Lies.alloc La.out _) hb'); replace Lb : Hid (Lies _ _ _ _ _ _) := (by first | exact Lies.on Lb.out hb' | exact Lies.on (Lies.alloc Lb.out _) hb'); replace HT : Hid (Tab _) := (by first | exact HT.out.below hb' | exact (HT.out.alloc _).below hb'); replace hA : Hid (Below W.heap.size W _) := (by first | exact below_join hA.out hb' | exact below_join (hA.out.alloc hA.out.size _) hb'); (try clear La0 La1 La2 La3 LaL); have La0 := La.out.c0; have La1 := La.out.c1; have La2 := La.out.c2; have La3 := La.out.c3; have LaL := La.out.lt; (try clear Lb0 Lb1 Lb2 Lb3 LbL); have Lb0 := Lb.out.c0; have Lb1 := Lb.out.c1; have Lb2 := Lb.out.c2; have Lb3 := Lb.out.c3; have LbL := Lb.out.lt; clear hb') | (go_at_call 10; refine (few_any _ _ _ _ _).mono ?_; rintro e w' ⟨rfl, hb'⟩; replace La : Hid (Lies _ _ _ _ _ _) := (by first | exact Lies.on La.out hb' | exact Lies.on (Lies.alloc La.out _) hb'); replace Lb : Hid (Lies _ _ _ _ _ _) := (by first | exact Lies.on Lb.out hb' | exact Lies.on (Lies.alloc Lb.out _) hb'); replace HT : Hid (Tab _) := (by first | exact HT.out.below hb' | exact (HT.out.alloc _).below hb'); replace hA : Hid (Below W.heap.size W _) := (by first | exact below_join hA.out hb' | exact below_join (hA.out.alloc hA.out.size _) hb'); (try clear La0 La1 La2 La3 LaL); have La0 := La.out.c0; have La1 := La.out.c1; have La2 := La.out.c2; have La3 := La.out.c3; have LaL := La.out.lt; (try clear Lb0 Lb1 Lb2 Lb3 LbL); have Lb0 := Lb.out.c0; have Lb1 := Lb.out.c1; have Lb2 := Lb.out.c2; have Lb3 := Lb.out.c3; have LbL := Lb.out.lt; clear hb') | (go_at_call_of 11 (Value.agg #[.bool x0, .int .u32 (n0 : Int), .bool r0, .string d0]); refine (HI0.out _ HT.out).mono ?_; rintro e w' ⟨rfl, hb'⟩; replace La : Hid (Lies _ _ _ _ _ _) := (by first | exact Lies.on La.out hb' | exact Lies.on (Lies.alloc La.out _) hb'); replace Lb : Hid (Lies _ _ _ _ _ _) := (by first | exact Lies.on Lb.out hb' | exact Lies.on (Lies.alloc Lb.out _) hb'); replace HT : Hid (Tab _) := (by first | exact HT.out.below hb' | exact (HT.out.alloc _).below hb'); replace hA : Hid (Below W.heap.size W _) := (by first | exact below_join hA.out hb' | exact below_join (hA.out.alloc hA.out.size _) hb'); (try clear La0 La1 La2 La3 LaL); have La0 := La.out.c0; have La1 := La.out.c1; have La2 := La.out.c2; have La3 := La.out.c3; have LaL := La.out.lt; (try clear Lb0 Lb1 Lb2 Lb3 LbL); have Lb0 := Lb.out.c0; have Lb1 := Lb.out.c1; have Lb2 := Lb.out.c2; have Lb3 := Lb.out.c3; have LbL := Lb.out.lt; clear hb') | (go_at_call_of 11 (Value.agg #[.bool x1, .int .u32 (n1 : Int), .bool r1, .string d1]); refine (HI1.out _ HT.out).mono ?_; rintro e w' ⟨rfl, hb'⟩; replace La : Hid (Lies _ _ _ _ _ _) := (by first | exact Lies.on La.out hb' | exact Lies.on (Lies.alloc La.out _) hb'); replace Lb : Hid (Lies _ _ _ _ _ _) := (by first | exact Lies.on Lb.out hb' | exact Lies.on (Lies.alloc Lb.out _) hb'); replace HT : Hid (Tab _) := (by first | exact HT.out.below hb' | exact (HT.out.alloc _).below hb'); replace hA : Hid (Below W.heap.size W _) := (by first | exact below_join hA.out hb' | exact below_join (hA.out.alloc hA.out.size _) hb'); (try clear La0 La1 La2 La3 LaL); have La0 := La.out.c0; have La1 := La.out.c1; have La2 := La.out.c2; have La3 := La.out.c3; have LaL := La.out.lt; (try clear Lb0 Lb1 Lb2 Lb3 LbL); have Lb0 := Lb.out.c0; have Lb1 := Lb.out.c1; have Lb2 := Lb.out.c2; have Lb3 := Lb.out.c3; have LbL := Lb.out.lt; clear hb'))
    go_ret
    exact ⟨rfl, hA.out⟩
  cases i1 : Fm.isF x1 n1 r1 d1.data.toList
  all_goals rw [i1] at HI1
  case false =>
    go_enter Tryd.func7, Tryd.ntmps7
    go_wp2_with (first | (go_at_call 9; refine (known3_any _ HT.out).mono ?_; rintro e w' ⟨rfl, hb'⟩; replace La : Hid (Lies _ _ _ _ _ _) := (by first | exact Lies.on La.out hb' | exact Lies.on (Lies.alloc La.out _) hb'); replace Lb : Hid (Lies _ _ _ _ _ _) := (by first | exact Lies.on Lb.out hb' | exact Lies.on (Lies.alloc Lb.out _) hb'); replace HT : Hid (Tab _) := (by first | exact HT.out.below hb' | exact (HT.out.alloc _).below hb'); replace hA : Hid (Below W.heap.size W _) := (by first | exact below_join hA.out hb' | exact below_join (hA.out.alloc hA.out.size _) hb'); (try clear La0 La1 La2 La3 LaL); have La0 := La.out.c0; have La1 := La.out.c1; have La2 := La.out.c2; have La3 := La.out.c3; have LaL := La.out.lt; (try clear Lb0 Lb1 Lb2 Lb3 LbL); have Lb0 := Lb.out.c0; have Lb1 := Lb.out.c1; have Lb2 := Lb.out.c2; have Lb3 := Lb.out.c3; have LbL := Lb.out.lt; clear hb') | (go_at_call 10; refine (few_any _ _ _ _ _).mono ?_; rintro e w' ⟨rfl, hb'⟩; replace La : Hid (Lies _ _ _ _ _ _) := (by first | exact Lies.on La.out hb' | exact Lies.on (Lies.alloc La.out _) hb'); replace Lb : Hid (Lies _ _ _ _ _ _) := (by first | exact Lies.on Lb.out hb' | exact Lies.on (Lies.alloc Lb.out _) hb'); replace HT : Hid (Tab _) := (by first | exact HT.out.below hb' | exact (HT.out.alloc _).below hb'); replace hA : Hid (Below W.heap.size W _) := (by first | exact below_join hA.out hb' | exact below_join (hA.out.alloc hA.out.size _) hb'); (try clear La0 La1 La2 La3 LaL); have La0 := La.out.c0; have La1 := La.out.c1; have La2 := La.out.c2; have La3 := La.out.c3; have LaL := La.out.lt; (try clear Lb0 Lb1 Lb2 Lb3 LbL); have Lb0 := Lb.out.c0; have Lb1 := Lb.out.c1; have Lb2 := Lb.out.c2; have Lb3 := Lb.out.c3; have LbL := Lb.out.lt; clear hb') | (go_at_call_of 11 (Value.agg #[.bool x0, .int .u32 (n0 : Int), .bool r0, .string d0]); refine (HI0.out _ HT.out).mono ?_; rintro e w' ⟨rfl, hb'⟩; replace La : Hid (Lies _ _ _ _ _ _) := (by first | exact Lies.on La.out hb' | exact Lies.on (Lies.alloc La.out _) hb'); replace Lb : Hid (Lies _ _ _ _ _ _) := (by first | exact Lies.on Lb.out hb' | exact Lies.on (Lies.alloc Lb.out _) hb'); replace HT : Hid (Tab _) := (by first | exact HT.out.below hb' | exact (HT.out.alloc _).below hb'); replace hA : Hid (Below W.heap.size W _) := (by first | exact below_join hA.out hb' | exact below_join (hA.out.alloc hA.out.size _) hb'); (try clear La0 La1 La2 La3 LaL); have La0 := La.out.c0; have La1 := La.out.c1; have La2 := La.out.c2; have La3 := La.out.c3; have LaL := La.out.lt; (try clear Lb0 Lb1 Lb2 Lb3 LbL); have Lb0 := Lb.out.c0; have Lb1 := Lb.out.c1; have Lb2 := Lb.out.c2; have Lb3 := Lb.out.c3; have LbL := Lb.out.lt; clear hb') | (go_at_call_of 11 (Value.agg #[.bool x1, .int .u32 (n1 : Int), .bool r1, .string d1]); refine (HI1.out _ HT.out).mono ?_; rintro e w' ⟨rfl, hb'⟩; replace La : Hid (Lies _ _ _ _ _ _) := (by first | exact Lies.on La.out hb' | exact Lies.on (Lies.alloc La.out _) hb'); replace Lb : Hid (Lies _ _ _ _ _ _) := (by first | exact Lies.on Lb.out hb' | exact Lies.on (Lies.alloc Lb.out _) hb'); replace HT : Hid (Tab _) := (by first | exact HT.out.below hb' | exact (HT.out.alloc _).below hb'); replace hA : Hid (Below W.heap.size W _) := (by first | exact below_join hA.out hb' | exact below_join (hA.out.alloc hA.out.size _) hb'); (try clear La0 La1 La2 La3 LaL); have La0 := La.out.c0; have La1 := La.out.c1; have La2 := La.out.c2; have La3 := La.out.c3; have LaL := La.out.lt; (try clear Lb0 Lb1 Lb2 Lb3 LbL); have Lb0 := Lb.out.c0; have Lb1 := Lb.out.c1; have Lb2 := Lb.out.c2; have Lb3 := Lb.out.c3; have LbL := Lb.out.lt; clear hb'))
    go_ret
    exact ⟨rfl, hA.out⟩
  have HA0 : Hid (∀ w, Tab w → Calls Tryd.prog 15 #[.agg #[.bool x0, .int .u32 n0, .bool r0, .string d0]] w fun e w' => e = .returned (.string ⟨(Bm.row (Fm.arb x0 n0 r0 d0.data.toList)).toArray⟩) ∧ Below w.heap.size w w') := fun w hT => fArb_any x0 n0 r0 d0 w hT h0
  have HA1 : Hid (∀ w, Tab w → Calls Tryd.prog 15 #[.agg #[.bool x1, .int .u32 n1, .bool r1, .string d1]] w fun e w' => e = .returned (.string ⟨(Bm.row (Fm.arb x1 n1 r1 d1.data.toList)).toArray⟩) ∧ Below w.heap.size w w') := fun w hT => fArb_any x1 n1 r1 d1 w hT h1
  have HC : Hid (∀ w, Tab w → Calls Tryd.prog 19 #[.agg #[.bool x0, .int .u32 n0, .bool r0, .string d0], .agg #[.bool x1, .int .u32 n1, .bool r1, .string d1]] w fun e w' => e = .returned (.int .i64 (Fm.cmpB (Fm.arb x0 n0 r0 d0.data.toList) (Fm.arb x1 n1 r1 d1.data.toList))) ∧ Below w.heap.size w w') := fun w hT => fCmp_any x0 n0 r0 d0 x1 n1 r1 d1 w hT h0 h1
  have HZ : Hid (Fm.cmpB (Fm.arb x0 n0 r0 d0.data.toList) (Fm.arb x1 n1 r1 d1.data.toList) = 0 → Fm.arb x0 n0 r0 d0.data.toList = Fm.arb x1 n1 r1 d1.data.toList) := fun h => by
    by_cases hs : x0 = x1 ∧ n0 = n1 ∧ r0 = r1
    · obtain ⟨rfl, rfl, rfl⟩ := hs
      unfold Fm.arb
      rw [if_pos i0, if_pos i1]
    · exact absurd h (arb_ne i0 i1 hs)
  have HAnd : Hid (∀ (X Y : List Bool) (k : Nat) (w : World), X.length ≤ 33 → Calls Tryd.prog 23 #[.string ((ByteArray.mk (Bm.row X).toArray).extract 0 k), .string ((ByteArray.mk (Bm.row Y).toArray).extract 0 k)] w fun e w' => e = .returned (.string ⟨(Bm.row (Bm.both (X.take k) (Y.take k))).toArray⟩) ∧ w' = w) := fun X Y k w hX => by
    have := refAnd_any ((ByteArray.mk (Bm.row X).toArray).extract 0 k) ((ByteArray.mk (Bm.row Y).toArray).extract 0 k) w (by rw [ByteArray.size_extract, size_str, Bm.length_row]; omega)
    rw [read_front, read_front] at this
    exact this
  have hX := arb_len x0 n0 r0 d0.data.toList
  have hY := arb_len x1 n1 r1 d1.data.toList
  clear i0 i1
  generalize Fm.arb x0 n0 r0 d0.data.toList = X at *
  generalize Fm.arb x1 n1 r1 d1.data.toList = Y at *
  by_cases hK : Fm.cmpB X Y = 0
  · have e := HZ.out hK
    subst e
    rw [hK] at HC
    clear HZ HAnd hK
    generalize ByteArray.mk (Bm.row X).toArray = A at *
    go_enter Tryd.func7, Tryd.ntmps7
    go_wp2_with (first | (go_at_call 9; refine (known3_any _ HT.out).mono ?_; rintro e w' ⟨rfl, hb'⟩; replace La : Hid (Lies _ _ _ _ _ _) := (by first | exact Lies.on La.out hb' | exact Lies.on (Lies.alloc La.out _) hb'); replace Lb : Hid (Lies _ _ _ _ _ _) := (by first | exact Lies.on Lb.out hb' | exact Lies.on (Lies.alloc Lb.out _) hb'); replace HT : Hid (Tab _) := (by first | exact HT.out.below hb' | exact (HT.out.alloc _).below hb'); replace hA : Hid (Below W.heap.size W _) := (by first | exact below_join hA.out hb' | exact below_join (hA.out.alloc hA.out.size _) hb'); (try clear La0 La1 La2 La3 LaL); have La0 := La.out.c0; have La1 := La.out.c1; have La2 := La.out.c2; have La3 := La.out.c3; have LaL := La.out.lt; (try clear Lb0 Lb1 Lb2 Lb3 LbL); have Lb0 := Lb.out.c0; have Lb1 := Lb.out.c1; have Lb2 := Lb.out.c2; have Lb3 := Lb.out.c3; have LbL := Lb.out.lt; clear hb') | (go_at_call 10; refine (few_any _ _ _ _ _).mono ?_; rintro e w' ⟨rfl, hb'⟩; replace La : Hid (Lies _ _ _ _ _ _) := (by first | exact Lies.on La.out hb' | exact Lies.on (Lies.alloc La.out _) hb'); replace Lb : Hid (Lies _ _ _ _ _ _) := (by first | exact Lies.on Lb.out hb' | exact Lies.on (Lies.alloc Lb.out _) hb'); replace HT : Hid (Tab _) := (by first | exact HT.out.below hb' | exact (HT.out.alloc _).below hb'); replace hA : Hid (Below W.heap.size W _) := (by first | exact below_join hA.out hb' | exact below_join (hA.out.alloc hA.out.size _) hb'); (try clear La0 La1 La2 La3 LaL); have La0 := La.out.c0; have La1 := La.out.c1; have La2 := La.out.c2; have La3 := La.out.c3; have LaL := La.out.lt; (try clear Lb0 Lb1 Lb2 Lb3 LbL); have Lb0 := Lb.out.c0; have Lb1 := Lb.out.c1; have Lb2 := Lb.out.c2; have Lb3 := Lb.out.c3; have LbL := Lb.out.lt; clear hb') | (go_at_call_of 11 (Value.agg #[.bool x0, .int .u32 (n0 : Int), .bool r0, .string d0]); refine (HI0.out _ HT.out).mono ?_; rintro e w' ⟨rfl, hb'⟩; replace La : Hid (Lies _ _ _ _ _ _) := (by first | exact Lies.on La.out hb' | exact Lies.on (Lies.alloc La.out _) hb'); replace Lb : Hid (Lies _ _ _ _ _ _) := (by first | exact Lies.on Lb.out hb' | exact Lies.on (Lies.alloc Lb.out _) hb'); replace HT : Hid (Tab _) := (by first | exact HT.out.below hb' | exact (HT.out.alloc _).below hb'); replace hA : Hid (Below W.heap.size W _) := (by first | exact below_join hA.out hb' | exact below_join (hA.out.alloc hA.out.size _) hb'); (try clear La0 La1 La2 La3 LaL); have La0 := La.out.c0; have La1 := La.out.c1; have La2 := La.out.c2; have La3 := La.out.c3; have LaL := La.out.lt; (try clear Lb0 Lb1 Lb2 Lb3 LbL); have Lb0 := Lb.out.c0; have Lb1 := Lb.out.c1; have Lb2 := Lb.out.c2; have Lb3 := Lb.out.c3; have LbL := Lb.out.lt; clear hb') | (go_at_call_of 11 (Value.agg #[.bool x1, .int .u32 (n1 : Int), .bool r1, .string d1]); refine (HI1.out _ HT.out).mono ?_; rintro e w' ⟨rfl, hb'⟩; replace La : Hid (Lies _ _ _ _ _ _) := (by first | exact Lies.on La.out hb' | exact Lies.on (Lies.alloc La.out _) hb'); replace Lb : Hid (Lies _ _ _ _ _ _) := (by first | exact Lies.on Lb.out hb' | exact Lies.on (Lies.alloc Lb.out _) hb'); replace HT : Hid (Tab _) := (by first | exact HT.out.below hb' | exact (HT.out.alloc _).below hb'); replace hA : Hid (Below W.heap.size W _) := (by first | exact below_join hA.out hb' | exact below_join (hA.out.alloc hA.out.size _) hb'); (try clear La0 La1 La2 La3 LaL); have La0 := La.out.c0; have La1 := La.out.c1; have La2 := La.out.c2; have La3 := La.out.c3; have LaL := La.out.lt; (try clear Lb0 Lb1 Lb2 Lb3 LbL); have Lb0 := Lb.out.c0; have Lb1 := Lb.out.c1; have Lb2 := Lb.out.c2; have Lb3 := Lb.out.c3; have LbL := Lb.out.lt; clear hb'))
    refine Lw.wp_region_quiet_below (by kernel_rfl) (by kernel_rfl) ?_
    repeat (first
      | go_big_quiet_skip
      | (go_big_quiet_want; go_big_quiet_op; go_big_quiet_on)
      | (go_big_quiet_want; go_big_quiet_op; apply Exists.intro; refine ⟨fun _ hb' => ?_, ?_⟩; (first
        | exact Lw.val_rfl _
        | (go_at_call_of 15 (Value.agg #[.bool x0, .int .u32 (n0 : Int), .bool r0, .string d0]); exact Lw.calls_below hb' (HA0.out _ (HT.out.below hb')))
        | (go_at_call 15; exact Lw.calls_below hb' (HA1.out _ (HT.out.below hb')))
        | (simp [go_sem, (Lies.on La.out hb').c0, (Lies.on La.out hb').c1, (Lies.on La.out hb').c2, (Lies.on La.out hb').c3]; rfl)
        | (simp [go_sem, (Lies.on Lb.out hb').c0, (Lies.on Lb.out hb').c1, (Lies.on Lb.out hb').c2, (Lies.on Lb.out hb').c3]; rfl)); go_big_quiet_on))
    refine wpQuiet_nil ?_
    intro w5 hb5
    replace La : Hid (Lies _ _ _ _ _ _) := Lies.on La.out hb5
    replace Lb : Hid (Lies _ _ _ _ _ _) := Lies.on Lb.out hb5
    replace HT : Hid (Tab _) := HT.out.below hb5
    replace hA : Hid (Below W.heap.size W _) := below_join hA.out hb5
    clear hb5
    have La0 := La.out.c0
    have La1 := La.out.c1
    have La2 := La.out.c2
    have La3 := La.out.c3
    have Lb0 := Lb.out.c0
    have Lb1 := Lb.out.c1
    have Lb2 := Lb.out.c2
    have Lb3 := Lb.out.c3
    go_wp2_with (first | (go_at_call 19; refine (HC.out _ HT.out).mono ?_; rintro e w' ⟨rfl, hb'⟩; replace La : Hid (Lies _ _ _ _ _ _) := (by first | exact Lies.on La.out hb' | exact Lies.on (Lies.alloc La.out _) hb'); replace Lb : Hid (Lies _ _ _ _ _ _) := (by first | exact Lies.on Lb.out hb' | exact Lies.on (Lies.alloc Lb.out _) hb'); replace HT : Hid (Tab _) := (by first | exact HT.out.below hb' | exact (HT.out.alloc _).below hb'); replace hA : Hid (Below W.heap.size W _) := (by first | exact below_join hA.out hb' | exact below_join (hA.out.alloc hA.out.size _) hb'); (try clear La0 La1 La2 La3 LaL); have La0 := La.out.c0; have La1 := La.out.c1; have La2 := La.out.c2; have La3 := La.out.c3; have LaL := La.out.lt; (try clear Lb0 Lb1 Lb2 Lb3 LbL); have Lb0 := Lb.out.c0; have Lb1 := Lb.out.c1; have Lb2 := Lb.out.c2; have Lb3 := Lb.out.c3; have LbL := Lb.out.lt; clear hb'))
    go_ret
    exact ⟨rfl, hA.out⟩
  · obtain ⟨d, P, hR⟩ := parts X Y hK
    have HAd : Hid (_) := fun w => HAnd.out X Y (d + 1) w hX
    have sx : (ByteArray.mk (Bm.row X).toArray).size ≤ 33 := by rw [size_str, Bm.length_row]; exact hX
    have sy : (ByteArray.mk (Bm.row Y).toArray).size ≤ 33 := by rw [size_str, Bm.length_row]; exact hY
    have HR : Hid (Fm.cmpB X Y = -1 ∧ ByteArray.mk (Bm.row (Bm.both (X.take (d + 1)) (Y.take (d + 1)))).toArray = (ByteArray.mk (Bm.row X).toArray).extract 0 (d + 1) ∨ Fm.cmpB X Y = 1 ∧ ByteArray.mk (Bm.row (Bm.both (X.take (d + 1)) (Y.take (d + 1)))).toArray = (ByteArray.mk (Bm.row Y).toArray).extract 0 (d + 1)) := by
      rcases hR with ⟨h1, h2⟩ | ⟨h1, h2⟩
      · exact Or.inl ⟨h1, by rw [h2, ext_front]⟩
      · exact Or.inr ⟨h1, by rw [h2, ext_front]⟩
    clear hR HZ HAnd hX hY
    generalize Fm.cmpB X Y = K at *
    generalize ByteArray.mk (Bm.row (Bm.both (X.take (d + 1)) (Y.take (d + 1)))).toArray = V at *
    generalize ByteArray.mk (Bm.row X).toArray = A at *
    generalize ByteArray.mk (Bm.row Y).toArray = B at *
    have hk1 : ((K : Int) == 0) = false := by simpa using hK
    clear hK
    go_enter Tryd.func7, Tryd.ntmps7
    go_wp2_with (first | (go_at_call 9; refine (known3_any _ HT.out).mono ?_; rintro e w' ⟨rfl, hb'⟩; replace La : Hid (Lies _ _ _ _ _ _) := (by first | exact Lies.on La.out hb' | exact Lies.on (Lies.alloc La.out _) hb'); replace Lb : Hid (Lies _ _ _ _ _ _) := (by first | exact Lies.on Lb.out hb' | exact Lies.on (Lies.alloc Lb.out _) hb'); replace HT : Hid (Tab _) := (by first | exact HT.out.below hb' | exact (HT.out.alloc _).below hb'); replace hA : Hid (Below W.heap.size W _) := (by first | exact below_join hA.out hb' | exact below_join (hA.out.alloc hA.out.size _) hb'); (try clear La0 La1 La2 La3 LaL); have La0 := La.out.c0; have La1 := La.out.c1; have La2 := La.out.c2; have La3 := La.out.c3; have LaL := La.out.lt; (try clear Lb0 Lb1 Lb2 Lb3 LbL); have Lb0 := Lb.out.c0; have Lb1 := Lb.out.c1; have Lb2 := Lb.out.c2; have Lb3 := Lb.out.c3; have LbL := Lb.out.lt; clear hb') | (go_at_call 10; refine (few_any _ _ _ _ _).mono ?_; rintro e w' ⟨rfl, hb'⟩; replace La : Hid (Lies _ _ _ _ _ _) := (by first | exact Lies.on La.out hb' | exact Lies.on (Lies.alloc La.out _) hb'); replace Lb : Hid (Lies _ _ _ _ _ _) := (by first | exact Lies.on Lb.out hb' | exact Lies.on (Lies.alloc Lb.out _) hb'); replace HT : Hid (Tab _) := (by first | exact HT.out.below hb' | exact (HT.out.alloc _).below hb'); replace hA : Hid (Below W.heap.size W _) := (by first | exact below_join hA.out hb' | exact below_join (hA.out.alloc hA.out.size _) hb'); (try clear La0 La1 La2 La3 LaL); have La0 := La.out.c0; have La1 := La.out.c1; have La2 := La.out.c2; have La3 := La.out.c3; have LaL := La.out.lt; (try clear Lb0 Lb1 Lb2 Lb3 LbL); have Lb0 := Lb.out.c0; have Lb1 := Lb.out.c1; have Lb2 := Lb.out.c2; have Lb3 := Lb.out.c3; have LbL := Lb.out.lt; clear hb') | (go_at_call_of 11 (Value.agg #[.bool x0, .int .u32 (n0 : Int), .bool r0, .string d0]); refine (HI0.out _ HT.out).mono ?_; rintro e w' ⟨rfl, hb'⟩; replace La : Hid (Lies _ _ _ _ _ _) := (by first | exact Lies.on La.out hb' | exact Lies.on (Lies.alloc La.out _) hb'); replace Lb : Hid (Lies _ _ _ _ _ _) := (by first | exact Lies.on Lb.out hb' | exact Lies.on (Lies.alloc Lb.out _) hb'); replace HT : Hid (Tab _) := (by first | exact HT.out.below hb' | exact (HT.out.alloc _).below hb'); replace hA : Hid (Below W.heap.size W _) := (by first | exact below_join hA.out hb' | exact below_join (hA.out.alloc hA.out.size _) hb'); (try clear La0 La1 La2 La3 LaL); have La0 := La.out.c0; have La1 := La.out.c1; have La2 := La.out.c2; have La3 := La.out.c3; have LaL := La.out.lt; (try clear Lb0 Lb1 Lb2 Lb3 LbL); have Lb0 := Lb.out.c0; have Lb1 := Lb.out.c1; have Lb2 := Lb.out.c2; have Lb3 := Lb.out.c3; have LbL := Lb.out.lt; clear hb') | (go_at_call_of 11 (Value.agg #[.bool x1, .int .u32 (n1 : Int), .bool r1, .string d1]); refine (HI1.out _ HT.out).mono ?_; rintro e w' ⟨rfl, hb'⟩; replace La : Hid (Lies _ _ _ _ _ _) := (by first | exact Lies.on La.out hb' | exact Lies.on (Lies.alloc La.out _) hb'); replace Lb : Hid (Lies _ _ _ _ _ _) := (by first | exact Lies.on Lb.out hb' | exact Lies.on (Lies.alloc Lb.out _) hb'); replace HT : Hid (Tab _) := (by first | exact HT.out.below hb' | exact (HT.out.alloc _).below hb'); replace hA : Hid (Below W.heap.size W _) := (by first | exact below_join hA.out hb' | exact below_join (hA.out.alloc hA.out.size _) hb'); (try clear La0 La1 La2 La3 LaL); have La0 := La.out.c0; have La1 := La.out.c1; have La2 := La.out.c2; have La3 := La.out.c3; have LaL := La.out.lt; (try clear Lb0 Lb1 Lb2 Lb3 LbL); have Lb0 := Lb.out.c0; have Lb1 := Lb.out.c1; have Lb2 := Lb.out.c2; have Lb3 := Lb.out.c3; have LbL := Lb.out.lt; clear hb'))
    refine Lw.wp_region_quiet_below (by kernel_rfl) (by kernel_rfl) ?_
    repeat (first
      | go_big_quiet_skip
      | (go_big_quiet_want; go_big_quiet_op; go_big_quiet_on)
      | (go_big_quiet_want; go_big_quiet_op; apply Exists.intro; refine ⟨fun _ hb' => ?_, ?_⟩; (first
        | exact Lw.val_rfl _
        | (go_at_call_of 15 (Value.agg #[.bool x0, .int .u32 (n0 : Int), .bool r0, .string d0]); exact Lw.calls_below hb' (HA0.out _ (HT.out.below hb')))
        | (go_at_call 15; exact Lw.calls_below hb' (HA1.out _ (HT.out.below hb')))
        | (simp [go_sem, (Lies.on La.out hb').c0, (Lies.on La.out hb').c1, (Lies.on La.out hb').c2, (Lies.on La.out hb').c3]; rfl)
        | (simp [go_sem, (Lies.on Lb.out hb').c0, (Lies.on Lb.out hb').c1, (Lies.on Lb.out hb').c2, (Lies.on Lb.out hb').c3]; rfl)); go_big_quiet_on))
    refine wpQuiet_nil ?_
    intro w5 hb5
    replace La : Hid (Lies _ _ _ _ _ _) := Lies.on La.out hb5
    replace Lb : Hid (Lies _ _ _ _ _ _) := Lies.on Lb.out hb5
    replace HT : Hid (Tab _) := HT.out.below hb5
    replace hA : Hid (Below W.heap.size W _) := below_join hA.out hb5
    clear hb5
    have La0 := La.out.c0
    have La1 := La.out.c1
    have La2 := La.out.c2
    have La3 := La.out.c3
    have Lb0 := Lb.out.c0
    have Lb1 := Lb.out.c1
    have Lb2 := Lb.out.c2
    have Lb3 := Lb.out.c3
    go_wp2_with (first | (go_at_call 19; refine (HC.out _ HT.out).mono ?_; rintro e w' ⟨rfl, hb'⟩; replace La : Hid (Lies _ _ _ _ _ _) := (by first | exact Lies.on La.out hb' | exact Lies.on (Lies.alloc La.out _) hb'); replace Lb : Hid (Lies _ _ _ _ _ _) := (by first | exact Lies.on Lb.out hb' | exact Lies.on (Lies.alloc Lb.out _) hb'); replace HT : Hid (Tab _) := (by first | exact HT.out.below hb' | exact (HT.out.alloc _).below hb'); replace hA : Hid (Below W.heap.size W _) := (by first | exact below_join hA.out hb' | exact below_join (hA.out.alloc hA.out.size _) hb'); (try clear La0 La1 La2 La3 LaL); have La0 := La.out.c0; have La1 := La.out.c1; have La2 := La.out.c2; have La3 := La.out.c3; have LaL := La.out.lt; (try clear Lb0 Lb1 Lb2 Lb3 LbL); have Lb0 := Lb.out.c0; have Lb1 := Lb.out.c1; have Lb2 := Lb.out.c2; have Lb3 := Lb.out.c3; have LbL := Lb.out.lt; clear hb'))
    clear HC HA0 HA1 HI0 HI1
    go_loopw [8] (fun i wr => ∃ j : Nat, j ≤ d ∧ i = .int .i64 j ∧ Hid (Below W.heap.size W wr)) (fun i _ => d - (intOf i).toNat)
    case atStart => exact ⟨0, Nat.zero_le _, rfl, hA⟩
    case round =>
      clear hA La Lb HT La0 La1 La2 La3 Lb0 Lb1 Lb2 Lb3
      obtain ⟨j, hj, rfl, hA⟩ := hrel
      have la := P.la
      have lb := P.lb
      have l1 : j < A.size := by omega
      have l2 : j < B.size := by omega
      have i1 := fun W => run_idx (P := Tryd.prog) 9 Tryd.underlying9 A j (j : Int) rfl l1 W
      have i2 := fun W => run_idx (P := Tryd.prog) 9 Tryd.underlying9 B j (j : Int) rfl l2 W
      by_cases hlt : j < d
      · have hs := P.same j hlt
        generalize A[j] = tk at *
        generalize B[j] = uk at *
        go_wp2
        go_quiet (fail)
        go_wp2
        go_roundw
        case rel => exact ⟨j + 1, by omega, by go_num, below_drewN hA.out _⟩
        case measure => simp [intOf]; omega
      · obtain rfl : j = d := by omega
        have hs := P.diff
        have hne := P.ne
        have hs1 := fun W => slice_front A (j + 1) ((j : Int) + 1) (by omega) (by omega) W
        have hs2 := fun W => slice_front B (j + 1) ((j : Int) + 1) (by omega) (by omega) W
        generalize A[j] = tk at *
        generalize B[j] = uk at *
        have HNe : Hid (_) := hne
        clear hne P
        rcases HR.out with ⟨hk, hv⟩ | ⟨hk, hv⟩
        · subst hk hv
          have hn1 : ((A.extract 0 (j + 1)).toList == (B.extract 0 (j + 1)).toList) = false := toList_ne HNe.out
          clear HR HNe
          generalize A.extract 0 (j + 1) = AX at *
          generalize B.extract 0 (j + 1) = BX at *
          go_wp2
          go_quiet (fail)
          go_wp2
          refine Lw.wp_region_quiet_below (by kernel_rfl) (by kernel_rfl) ?_
          repeat (first
            | go_big_quiet_skip
            | (go_big_quiet_want; go_big_quiet_op; go_big_quiet_on)
            | (go_big_quiet_want; go_big_quiet_op; apply Exists.intro; refine ⟨fun _ hb' => ?_, ?_⟩; (first
              | exact Lw.val_rfl _
              | (go_at_call 23; exact Lw.calls_sameB hb' (HAd.out _))); go_big_quiet_on))
          refine wpQuiet_nil ?_
          intro w6 hb6
          have hA6 : Below W.heap.size W w6 := below_join (below_drewN hA.out _) hb6
          go_wp2
          go_ret
          exact ⟨rfl, hA6⟩
        · subst hk hv
          have hn1 : ((B.extract 0 (j + 1)).toList == (A.extract 0 (j + 1)).toList) = false := toList_ne (fun e => HNe.out e.symm)
          clear HR HNe
          generalize A.extract 0 (j + 1) = AX at *
          generalize B.extract 0 (j + 1) = BX at *
          go_wp2
          go_quiet (fail)
          go_wp2
          refine Lw.wp_region_quiet_below (by kernel_rfl) (by kernel_rfl) ?_
          repeat (first
            | go_big_quiet_skip
            | (go_big_quiet_want; go_big_quiet_op; go_big_quiet_on)
            | (go_big_quiet_want; go_big_quiet_op; apply Exists.intro; refine ⟨fun _ hb' => ?_, ?_⟩; (first
              | exact Lw.val_rfl _
              | (go_at_call 23; exact Lw.calls_sameB hb' (HAd.out _))); go_big_quiet_on))
          refine wpQuiet_nil ?_
          intro w6 hb6
          have hA6 : Below W.heap.size W w6 := below_join (below_drewN hA.out _) hb6
          go_wp2
          go_ret
          exact ⟨rfl, hA6⟩
theorem walk (x0 : Bool) (n0 : Int) (r0 : Bool) (d0 : ByteArray) (w0 : (Lit.int .u32 n0).wf = true) (u0 : d0.size ≤ maxLen) (x1 : Bool) (n1 : Int) (r1 : Bool) (d1 : ByteArray) (w1 : (Lit.int .u32 n1).wf = true) (u1 : d1.size ≤ maxLen) (W : World) (hT : Tab W) :
    Calls Tryd.prog 7 #[.agg #[.bool x0, .int .u32 n0, .bool r0, .string d0], .agg #[.bool x1, .int .u32 n1, .bool r1, .string d1]] W fun e w' => e = .returned (.bool true) ∧ Below W.heap.size W w' := by
  obtain ⟨m0, rfl, h0⟩ := u32_nat w0
  obtain ⟨m1, rfl, h1⟩ := u32_nat w1
  exact walkN x0 m0 r0 d0 h0 x1 m1 r1 d1 h1 W hT
theorem own : ownKnob Tryd.prog.godebug = none := by kernel_rfl
theorem contract (H : Type) (enc : TypeId × Value → H) (W : World) (base : Nat) (args : Array Value) (ds gs : List (DataW H)) (before : List MemPlace)
    (hval0 : ∀ (j : Nat) t v, Tryd.f7.params[j]? = some t → args[j]? = some v → Value.okWide Tryd.prog W .any base t v)
    (hW : DataW.Whole enc Tryd.prog Tryd.f7.params.toList Rows.frameWinsSpec.vars false W args.toList ds gs before) (hL : laidMetH Tryd.prog Rows.frameWinsRow.laid W) :
    Calls Tryd.prog 7 args W fun e W' => ∃ v, e = .returned v ∧ Rows.frameWinsSpec.post enc Tryd.prog Tryd.f7 false true false false W args v W' := by
  have hval : ∀ (j : Nat) t v, Tryd.f7.params[j]? = some t → args[j]? = some v → Value.okWide Tryd.prog W .any base t v := hval0
  have hW' := hW
  obtain ⟨p, q, hA0, hV, rfl, hfz, hnd⟩ := hW
  have hA : DataW.TrodAll enc Tryd.prog W 0 (fun _ => true) true Tryd.f7.params.toList args.toList ds p := hA0
  rw [Tryd.params7] at hA hval
  obtain ⟨v0, vs0, d0, ds0, p0, q0, hargs, rfl, rfl, h0, rr0⟩ := trodAll_cons hA
  obtain ⟨v1, vs1, d1, ds1, p1, q1, rfl, rfl, rfl, h1, rr1⟩ := trodAll_cons rr0
  obtain ⟨rfl, rfl, rfl⟩ := trodAll_nil rr1
  obtain rfl : args = #[v0, v1] := by cases args; simp_all
  obtain ⟨rfl, rfl⟩ := trodVars_none hV
  obtain ⟨e0, e1, e2, e3, y0, y1, y2, y3, n0, rfl, rfl, rfl, k0, k1, k2, k3⟩ := Joins.open_agg4 Tryd.underlying24 (by kernel_rfl) (by kernel_rfl) (hval 0 24 v0 rfl rfl) h0
  obtain ⟨x0, hx0, rfl⟩ := DataW.trod_bool Tryd.underlying4 k0
  obtain ⟨n0, hx1, rfl, w0⟩ := DataW.trod_int Tryd.underlying22 k1
  obtain ⟨r0, hx2, rfl⟩ := DataW.trod_bool Tryd.underlying4 k2
  obtain ⟨d0, hx3, rfl, u0⟩ := DataW.trod_string Tryd.underlying9 k3
  obtain rfl := List.singleton_inj.1 hx0
  obtain rfl := List.singleton_inj.1 hx1
  obtain rfl := List.singleton_inj.1 hx2
  obtain rfl := List.singleton_inj.1 hx3
  clear k0 k1 k2 k3 hx0 hx1 hx2 hx3
  obtain ⟨e0, e1, e2, e3, y0, y1, y2, y3, n1, rfl, rfl, rfl, k0, k1, k2, k3⟩ := Joins.open_agg4 Tryd.underlying24 (by kernel_rfl) (by kernel_rfl) (hval 1 24 v1 rfl rfl) h1
  obtain ⟨x1, hx0, rfl⟩ := DataW.trod_bool Tryd.underlying4 k0
  obtain ⟨n1, hx1, rfl, w1⟩ := DataW.trod_int Tryd.underlying22 k1
  obtain ⟨r1, hx2, rfl⟩ := DataW.trod_bool Tryd.underlying4 k2
  obtain ⟨d1, hx3, rfl, u1⟩ := DataW.trod_string Tryd.underlying9 k3
  obtain rfl := List.singleton_inj.1 hx0
  obtain rfl := List.singleton_inj.1 hx1
  obtain rfl := List.singleton_inj.1 hx2
  obtain rfl := List.singleton_inj.1 hx3
  clear k0 k1 k2 k3 hx0 hx1 hx2 hx3
  clear hA0 hval0
  refine (walk x0 n0 r0 d0 w0 u0 x1 n1 r1 d1 w1 u1 W (tab_of_laid hL)).mono fun e W' ⟨he, bel⟩ => ?_
  subst he
  exact ⟨_, rfl, _, _, _, [], _, [], hW', trodAll_mk1 (shut_bool Tryd.underlying4 _), (trodAll_cons_mk (shut_frame w0 u0) (trodAll_cons_mk (shut_frame w1 u1) trodAll_mk0)), rfl, bel.frame _, fun h => by cases h⟩
theorem laid_met (os : Os) : laidMet Tryd.prog Rows.frameWinsRow.laid ((tabWorld os).forCall (fun _ _ => 0) ⟨#[], #[.agg #[.bool false, .int .u32 0, .bool false, .string ByteArray.empty], .agg #[.bool false, .int .u32 0, .bool false, .string ByteArray.empty]], []⟩).memory :=
  laidMet_of_run' 8 (by kernel_rfl) (by kernel_rfl)
theorem reads (os : Os) {H : Type} (enc : TypeId × Value → H) : ∃ places, DataW.whole enc Tryd.prog ((tabWorld os).forCall (fun _ _ => 0) ⟨#[], #[.agg #[.bool false, .int .u32 0, .bool false, .string ByteArray.empty], .agg #[.bool false, .int .u32 0, .bool false, .string ByteArray.empty]], []⟩).memory Tryd.f7.params.toList Rows.frameWinsSpec.vars false #[Value.agg #[.bool false, .int .u32 0, .bool false, .string ByteArray.empty], .agg #[.bool false, .int .u32 0, .bool false, .string ByteArray.empty]].toList 8 = some ([.agg [.lit (.bool false), .lit (.int .u32 0), .lit (.bool false), .lit (.string [])], .agg [.lit (.bool false), .lit (.int .u32 0), .lit (.bool false), .lit (.string [])]], [], places) :=
  ⟨[], by kernel_rfl⟩
set_option maxRecDepth 100000 in
theorem lifted (os : Os) (started : os.Started) (H : Type) (enc : TypeId × Value → H) (F : Stop.Interp) :
    ReturnsInHanded {} Tryd.checked os 7 .any ((OpenSpec.ofChange Rows.frameWinsSpec).preRow enc Tryd.prog Tryd.f7 Rows.frameWinsRow.domain false Rows.frameWinsRow.laid) (((OpenSpec.ofChange Rows.frameWinsSpec).at F).post enc Tryd.prog Tryd.f7 false true false false) := by
  obtain ⟨places, hx⟩ := reads os enc
  refine returnsInHanded_of_row (C := Tryd.checked) (s := OpenSpec.ofChange Rows.frameWinsSpec) own started (by kernel_rfl) Tryd.func7
    (witness_row_at (enc := enc) (C := Tryd.checked) false (tabWorld os) #[.agg #[.bool false, .int .u32 0, .bool false, .string ByteArray.empty], .agg #[.bool false, .int .u32 0, .bool false, .string ByteArray.empty]] rfl (by kernel_rfl) (by kernel_rfl) (by kernel_rfl)
      (OpenSpec.preRow_of_cond 8 hx (by kernel_rfl) (fun k hk => by cases hk) (by kernel_rfl) (laid_met os))) ?_
  intro W base args ds gs before hval hW _ _ _ hL _ _
  exact contract H enc W base args ds gs before hval hW hL
theorem said : Rows.FrameWinsSaid :=
  OpenClaim.holds_of_cond 7 Tryd.f7 rfl rfl rfl rfl rfl rfl rfl ⟨rfl, rfl, rfl, rfl, rfl⟩ rfl rfl rfl rfl rfl (by kernel_rfl) Tryd.func7 (by kernel_rfl)
    (of_decide_eq_true (by kernel_rfl)) (by unfold Func.isWrapper; first | (rw [if_pos (by decide +kernel)]; kernel_rfl) | (rw [if_neg (by decide +kernel)]; exact ⟨rfl, rfl⟩))
    (fun os started H enc _ F => by rw [OpenClaim.pre_eq_preRow]; exact lifted os started H enc F)
theorem plain (f : FuncId) (fn : Func) (hf : Tryd.pinned.checked.prog.funcNamed "ostinato/ostinatolaw3.FrameWins" = some f) (hfn : Tryd.pinned.checked.prog.funcs[f]? = some fn) :
    false = Tryd.pinned.checked.prog.looks [] ∧ ∀ (j : Nat) t, fn.params[j]? = some t → Tryd.pinned.checked.prog.wantsStandIn t = false := by
  obtain rfl : f = 7 := Option.some.inj ((show Tryd.prog.funcNamed "ostinato/ostinatolaw3.FrameWins" = some 7 by kernel_rfl).symm.trans hf) |>.symm
  obtain rfl : fn = Tryd.f7 := (Option.some.inj (Tryd.func7.symm.trans hfn)).symm
  refine ⟨by kernel_rfl, fun j t ht => ?_⟩
  rw [Tryd.params7] at ht
  have hm : t ∈ [24, 24] := by simpa using Array.mem_of_getElem? ht
  have hall : ([24, 24].all fun u => !Tryd.prog.wantsStandIn u) = true := by kernel_rfl
  exact (show Tryd.prog.wantsStandIn t = false by simpa using List.all_eq_true.1 hall t hm)
end Go.Proofs.YtfnbkehabadpmaaDoor.frameWins
namespace Go.Proofs.YtfnbkehabadpmaaDoor
/-- The statement. -/
theorem frameWins_holds : Rows.FrameWinsCardSaid :=
  Claim7.holds_tied_plain_at .later [] _ _ _ _ frameWins.said (fun _ h => by cases h) (by kernel_rfl) (fun _ h => by cases h) frameWins_row_tie rfl ⟨rfl, rfl⟩ (by kernel_rfl) rfl frameWins.plain (by kernel_rfl)
#print axioms frameWins_holds
end Go.Proofs.YtfnbkehabadpmaaDoor
