/- CodeSix: six bits alike within a frame are told at the sixth. No condition but the row's own: the table of widths holds what the program's text lays. -/
import Derived.Test.YtaphdehhnnglgabDoorYk
import Derived.Test.YtaphdehhnnglgabDoorRw
namespace Go.Proofs.YtaphdehhnnglgabDoor.codeSix
open Go.ChangeShapes Go.WideShapes Go.ChangeAt Go.RowKit
open Go.ChangeMaps (open_string shut_string)
set_option linter.unusedVariables false
theorem ext_one (l : List Bool) (k : Nat) (h : k < l.length) : (ByteArray.mk (Bm.row l).toArray).extract k (k + 1) = ByteArray.mk #[Bm.sign l[k]] := by
  have hk : k < (Bm.row l).length := by rw [Bm.length_row]; exact h
  apply ByteArray.ext
  rw [ByteArray.data_extract]
  show (Bm.row l).toArray.extract k (k + 1) = _
  rw [List.extract_toArray]
  apply congrArg
  rw [List.extract_eq_take_drop, show k + 1 - k = 1 from by omega, List.drop_eq_getElem_cons hk]
  simp [Bm.row]
theorem read_six (l : List Bool) (k : Nat) (c : Bool) : Bm.read ((ByteArray.mk (Bm.row l).toArray).extract 0 k ++ ByteArray.mk #[Bm.sign c] ++ ByteArray.mk #[Bm.sign c] ++ ByteArray.mk #[Bm.sign c] ++ ByteArray.mk #[Bm.sign c] ++ ByteArray.mk #[Bm.sign c] ++ ByteArray.mk #[Bm.sign c]).data.toList = l.take k ++ List.replicate 6 c := by
  have e : (ByteArray.mk (Bm.row l).toArray).extract 0 k = ByteArray.mk (Bm.row (l.take k)).toArray := by
    apply ByteArray.ext
    rw [ByteArray.data_extract]
    show (Bm.row l).toArray.extract 0 k = _
    rw [List.extract_toArray]
    apply congrArg
    rw [List.extract_eq_take_drop, List.drop_zero, Nat.sub_zero]
    unfold Bm.row
    rw [List.map_take]
  rw [e, row_snoc, row_snoc, row_snoc, row_snoc, row_snoc, row_snoc, read_mk]
  simp [List.replicate]
theorem app_left (a b : List Bool) (k : Nat) (h : k < a.length) : (a ++ b)[k]'(by rw [List.length_append]; omega) = a[k] := List.getElem_append_left h
set_option maxRecDepth 100000 in
set_option maxHeartbeats 4000000 in
theorem walkN (x0 : Bool) (n0 : Nat) (r0 : Bool) (d0 : ByteArray) (h0 : n0 < 4294967296) (a1 : Nat) (h1 : a1 < 256) (a2 : Bool) (W : World) (hT : Tab W) :
    Calls Tryd.prog 4 #[.agg #[.bool x0, .int .u32 n0, .bool r0, .string d0], .int .u8 (a1 : Int), .bool a2] W fun e w' => e = .returned (.bool true) ∧ Below W.heap.size W w' := by
  have HC : Hid (∀ w, Tab w → Calls Tryd.prog 10 #[.agg #[.bool x0, .int .u32 n0, .bool r0, .string d0]] w fun e w' => e = .returned (.string ⟨(Bm.row (Cm.enc x0 n0 r0 d0.data.toList)).toArray⟩) ∧ Below w.heap.size w w') := fun w hT => cEnc_any x0 n0 r0 d0 w hT h0
  have HL : Hid (∀ w, Tab w → Calls Tryd.prog 8 #[.agg #[.bool x0, .int .u32 n0, .bool r0, .string d0]] w fun e w' => e = .returned (.int .i64 ((Cm.enc x0 n0 r0 d0.data.toList).length : Int)) ∧ Below w.heap.size w w') := fun w hT => cLen_any x0 n0 r0 d0 w hT h0
  have HT : Hid (Tab _) := hT.alloc (.cells #[.bool x0, .int .u32 n0, .bool r0, .string d0] 24)
  have hA : Hid (Below W.heap.size W _) := (Below.refl _ _).alloc (Nat.le_refl _) (.cells #[.bool x0, .int .u32 n0, .bool r0, .string d0] 24)
  have La : Hid (Lies _ _ _ _ _ _) := Lies.new W x0 n0 r0 d0
  clear hT
  cases f0 : decide ((d0.size : Int) ≤ 20)
  case false =>
    generalize (Cm.enc x0 n0 r0 d0.data.toList).length = L at *
    go_enter Tryd.func4, Tryd.ntmps4
    go_wp2_with (first | (go_at_call 7; refine (known4_any _ HT.out).mono ?_; rintro e w' ⟨rfl, hb'⟩; replace La : Hid (Lies _ _ _ _ _ _) := (by first | exact Lies.on La.out hb' | exact Lies.on (Lies.alloc La.out _) hb'); replace HT : Hid (Tab _) := (by first | exact HT.out.below hb' | exact (HT.out.alloc _).below hb'); replace hA : Hid (Below W.heap.size W _) := (by first | exact below_join hA.out hb' | exact below_join (hA.out.alloc hA.out.size _) hb'); (try clear La0 La1 La2 La3 LaL); have La0 := La.out.c0; have La1 := La.out.c1; have La2 := La.out.c2; have La3 := La.out.c3; have LaL := La.out.lt; clear hb') | (go_at_call 9; refine (few4_any _ _ _ _ _).mono ?_; rintro e w' ⟨rfl, hb'⟩; replace La : Hid (Lies _ _ _ _ _ _) := (by first | exact Lies.on La.out hb' | exact Lies.on (Lies.alloc La.out _) hb'); replace HT : Hid (Tab _) := (by first | exact HT.out.below hb' | exact (HT.out.alloc _).below hb'); replace hA : Hid (Below W.heap.size W _) := (by first | exact below_join hA.out hb' | exact below_join (hA.out.alloc hA.out.size _) hb'); (try clear La0 La1 La2 La3 LaL); have La0 := La.out.c0; have La1 := La.out.c1; have La2 := La.out.c2; have La3 := La.out.c3; have LaL := La.out.lt; clear hb') | (go_at_call 8; refine (HL.out _ HT.out).mono ?_; rintro e w' ⟨rfl, hb'⟩; replace La : Hid (Lies _ _ _ _ _ _) := (by first | exact Lies.on La.out hb' | exact Lies.on (Lies.alloc La.out _) hb'); replace HT : Hid (Tab _) := (by first | exact HT.out.below hb' | exact (HT.out.alloc _).below hb'); replace hA : Hid (Below W.heap.size W _) := (by first | exact below_join hA.out hb' | exact below_join (hA.out.alloc hA.out.size _) hb'); (try clear La0 La1 La2 La3 LaL); have La0 := La.out.c0; have La1 := La.out.c1; have La2 := La.out.c2; have La3 := La.out.c3; have LaL := La.out.lt; clear hb'))
    all_goals
      go_ret
      exact ⟨rfl, hA.out⟩
  cases i0 : Fm.isF x0 n0 r0 d0.data.toList
  case false =>
    have e0 : Cm.enc x0 n0 r0 d0.data.toList = [] := by unfold Cm.enc; rw [i0]; rfl
    rw [e0] at HL
    go_enter Tryd.func4, Tryd.ntmps4
    go_wp2_with (first | (go_at_call 7; refine (known4_any _ HT.out).mono ?_; rintro e w' ⟨rfl, hb'⟩; replace La : Hid (Lies _ _ _ _ _ _) := (by first | exact Lies.on La.out hb' | exact Lies.on (Lies.alloc La.out _) hb'); replace HT : Hid (Tab _) := (by first | exact HT.out.below hb' | exact (HT.out.alloc _).below hb'); replace hA : Hid (Below W.heap.size W _) := (by first | exact below_join hA.out hb' | exact below_join (hA.out.alloc hA.out.size _) hb'); (try clear La0 La1 La2 La3 LaL); have La0 := La.out.c0; have La1 := La.out.c1; have La2 := La.out.c2; have La3 := La.out.c3; have LaL := La.out.lt; clear hb') | (go_at_call 9; refine (few4_any _ _ _ _ _).mono ?_; rintro e w' ⟨rfl, hb'⟩; replace La : Hid (Lies _ _ _ _ _ _) := (by first | exact Lies.on La.out hb' | exact Lies.on (Lies.alloc La.out _) hb'); replace HT : Hid (Tab _) := (by first | exact HT.out.below hb' | exact (HT.out.alloc _).below hb'); replace hA : Hid (Below W.heap.size W _) := (by first | exact below_join hA.out hb' | exact below_join (hA.out.alloc hA.out.size _) hb'); (try clear La0 La1 La2 La3 LaL); have La0 := La.out.c0; have La1 := La.out.c1; have La2 := La.out.c2; have La3 := La.out.c3; have LaL := La.out.lt; clear hb') | (go_at_call 8; refine (HL.out _ HT.out).mono ?_; rintro e w' ⟨rfl, hb'⟩; replace La : Hid (Lies _ _ _ _ _ _) := (by first | exact Lies.on La.out hb' | exact Lies.on (Lies.alloc La.out _) hb'); replace HT : Hid (Tab _) := (by first | exact HT.out.below hb' | exact (HT.out.alloc _).below hb'); replace hA : Hid (Below W.heap.size W _) := (by first | exact below_join hA.out hb' | exact below_join (hA.out.alloc hA.out.size _) hb'); (try clear La0 La1 La2 La3 LaL); have La0 := La.out.c0; have La1 := La.out.c1; have La2 := La.out.c2; have La3 := La.out.c3; have LaL := La.out.lt; clear hb'))
    all_goals
      go_ret
      exact ⟨rfl, hA.out⟩
  have e0 : Cm.enc x0 n0 r0 d0.data.toList = Cm.enc0 x0 n0 r0 d0.data.toList := by unfold Cm.enc; rw [i0]; rfl
  have hl := Cm.enc_len i0
  have hz := size_rowr (Cm.enc0 x0 n0 r0 d0.data.toList)
  rw [e0] at HC HL
  have hne1 : 44 ≤ (Cm.enc0 x0 n0 r0 d0.data.toList).length := by
    have := hl.1
    split at this <;> omega
  have hne2 := hl.2.2
  have hel : (Cm.enc0 x0 n0 r0 d0.data.toList).length = (Sm.stuff (Fm.body0 x0 n0 r0 d0.data.toList ++ Bm.ofB (Bm.crc (Fm.body0 x0 n0 r0 d0.data.toList)) 15)).length + 10 := by
    show (Sm.stuff _ ++ Cm.ones 10).length = _
    rw [List.length_append]; rfl
  obtain ⟨kk, hkk⟩ : ∃ kk, a1 % ((Cm.enc0 x0 n0 r0 d0.data.toList).length - 16) = kk := ⟨_, rfl⟩
  have hkl : kk < (Cm.enc0 x0 n0 r0 d0.data.toList).length - 16 := by
    rw [← hkk]
    exact Nat.mod_lt _ (by omega)
  have hk : ((a1 : Int) % (((Cm.enc0 x0 n0 r0 d0.data.toList).length : Int) - 16)) = (kk : Int) := by
    rw [show ((Cm.enc0 x0 n0 r0 d0.data.toList).length : Int) - 16 = (((Cm.enc0 x0 n0 r0 d0.data.toList).length - 16 : Nat) : Int) from by omega, ← hkk]
    simp
  have hlast := ext_one (Cm.enc0 x0 n0 r0 d0.data.toList) kk (by omega)
  have hgl : (Cm.enc0 x0 n0 r0 d0.data.toList)[kk]'(by omega) = (Sm.stuff (Fm.body0 x0 n0 r0 d0.data.toList ++ Bm.ofB (Bm.crc (Fm.body0 x0 n0 r0 d0.data.toList)) 15))[kk]'(by omega) := by
    exact app_left (Sm.stuff (Fm.body0 x0 n0 r0 d0.data.toList ++ Bm.ofB (Bm.crc (Fm.body0 x0 n0 r0 d0.data.toList)) 15)) (Cm.ones 10) kk (by omega)
  rw [hgl] at hlast
  have htk : (Cm.enc0 x0 n0 r0 d0.data.toList).take (kk + 1) = (Sm.stuff (Fm.body0 x0 n0 r0 d0.data.toList ++ Bm.ofB (Bm.crc (Fm.body0 x0 n0 r0 d0.data.toList)) 15)).take (kk + 1) := by
    exact List.take_append_of_le_length (l₁ := Sm.stuff (Fm.body0 x0 n0 r0 d0.data.toList ++ Bm.ofB (Bm.crc (Fm.body0 x0 n0 r0 d0.data.toList)) 15)) (l₂ := Cm.ones 10) (by omega)
  have HS : Hid ((Sm.stuff (Fm.body0 x0 n0 r0 d0.data.toList ++ Bm.ofB (Bm.crc (Fm.body0 x0 n0 r0 d0.data.toList)) 15))[kk]'(by omega) ≠ a2 → Cm.dec ((Cm.enc0 x0 n0 r0 d0.data.toList).take (kk + 1) ++ List.replicate 6 a2) = (Cm.noF, kk + 1 + 5, 20) ∨ ∃ j, j ≤ kk + 1 + 5 ∧ Cm.dec ((Cm.enc0 x0 n0 r0 d0.data.toList).take (kk + 1) ++ List.replicate 6 a2) = (Cm.noF, j, 12)) := fun h => by
    have := Cm.dec_six i0 (Bm.ofB (Bm.crc (Fm.body0 x0 n0 r0 d0.data.toList)) 15) (Bm.length_ofB _ _) (kk + 1) (by omega) (by omega) a2 (by simpa using h) []
    rw [List.append_nil] at this
    rw [htk]
    exact this
  have HD : Hid (∀ w, Tab w → Calls Tryd.prog 11 #[.string ((ByteArray.mk (Bm.row (Cm.enc0 x0 n0 r0 d0.data.toList)).toArray).extract 0 (kk + 1) ++ ByteArray.mk #[Bm.sign a2] ++ ByteArray.mk #[Bm.sign a2] ++ ByteArray.mk #[Bm.sign a2] ++ ByteArray.mk #[Bm.sign a2] ++ ByteArray.mk #[Bm.sign a2] ++ ByteArray.mk #[Bm.sign a2])] w fun e w' => e = .returned (cfv (Cm.dec ((Cm.enc0 x0 n0 r0 d0.data.toList).take (kk + 1) ++ List.replicate 6 a2))) ∧ Below w.heap.size w w') := fun w hT => by
    have h := cDec_any ((ByteArray.mk (Bm.row (Cm.enc0 x0 n0 r0 d0.data.toList)).toArray).extract 0 (kk + 1) ++ ByteArray.mk #[Bm.sign a2] ++ ByteArray.mk #[Bm.sign a2] ++ ByteArray.mk #[Bm.sign a2] ++ ByteArray.mk #[Bm.sign a2] ++ ByteArray.mk #[Bm.sign a2] ++ ByteArray.mk #[Bm.sign a2]) w hT (by simp only [ByteArray.size_append, ByteArray.size_extract, hz]; show _ + 1 + 1 + 1 + 1 + 1 + 1 ≤ _; omega)
    rw [read_six] at h
    exact h
  generalize (Sm.stuff (Fm.body0 x0 n0 r0 d0.data.toList ++ Bm.ofB (Bm.crc (Fm.body0 x0 n0 r0 d0.data.toList)) 15))[kk]'_ = y at *
  generalize Cm.dec ((Cm.enc0 x0 n0 r0 d0.data.toList).take (kk + 1) ++ List.replicate 6 a2) = dd at *
  clear hl e0 i0 hel hgl htk hkk
  generalize ByteArray.mk (Bm.row (Cm.enc0 x0 n0 r0 d0.data.toList)).toArray = E at *
  generalize (Cm.enc0 x0 n0 r0 d0.data.toList).length = L at *
  have hz0 : ((L : Int) == 0) = false := by
    rw [beq_eq_false_iff_ne]
    omega
  have hxs : (E.extract 0 (kk + 1)).size = kk + 1 := by rw [ByteArray.size_extract]; omega
  have ht : Bm.sign true = 49 := rfl
  have hf : Bm.sign false = 48 := rfl
  by_cases hy : y = a2
  · subst hy
    clear HS HD
    cases y
    all_goals
      first | rw [ht] at hlast | rw [hf] at hlast
      go_enter Tryd.func4, Tryd.ntmps4
      go_wp2_with (first | (go_at_call 7; refine (known4_any _ HT.out).mono ?_; rintro e w' ⟨rfl, hb'⟩; replace La : Hid (Lies _ _ _ _ _ _) := (by first | exact Lies.on La.out hb' | exact Lies.on (Lies.alloc La.out _) hb'); replace HT : Hid (Tab _) := (by first | exact HT.out.below hb' | exact (HT.out.alloc _).below hb'); replace hA : Hid (Below W.heap.size W _) := (by first | exact below_join hA.out hb' | exact below_join (hA.out.alloc hA.out.size _) hb'); (try clear La0 La1 La2 La3 LaL); have La0 := La.out.c0; have La1 := La.out.c1; have La2 := La.out.c2; have La3 := La.out.c3; have LaL := La.out.lt; clear hb') | (go_at_call 9; refine (few4_any _ _ _ _ _).mono ?_; rintro e w' ⟨rfl, hb'⟩; replace La : Hid (Lies _ _ _ _ _ _) := (by first | exact Lies.on La.out hb' | exact Lies.on (Lies.alloc La.out _) hb'); replace HT : Hid (Tab _) := (by first | exact HT.out.below hb' | exact (HT.out.alloc _).below hb'); replace hA : Hid (Below W.heap.size W _) := (by first | exact below_join hA.out hb' | exact below_join (hA.out.alloc hA.out.size _) hb'); (try clear La0 La1 La2 La3 LaL); have La0 := La.out.c0; have La1 := La.out.c1; have La2 := La.out.c2; have La3 := La.out.c3; have LaL := La.out.lt; clear hb') | (go_at_call 8; refine (HL.out _ HT.out).mono ?_; rintro e w' ⟨rfl, hb'⟩; replace La : Hid (Lies _ _ _ _ _ _) := (by first | exact Lies.on La.out hb' | exact Lies.on (Lies.alloc La.out _) hb'); replace HT : Hid (Tab _) := (by first | exact HT.out.below hb' | exact (HT.out.alloc _).below hb'); replace hA : Hid (Below W.heap.size W _) := (by first | exact below_join hA.out hb' | exact below_join (hA.out.alloc hA.out.size _) hb'); (try clear La0 La1 La2 La3 LaL); have La0 := La.out.c0; have La1 := La.out.c1; have La2 := La.out.c2; have La3 := La.out.c3; have LaL := La.out.lt; clear hb') | (go_at_call 10; refine (HC.out _ HT.out).mono ?_; rintro e w' ⟨rfl, hb'⟩; replace La : Hid (Lies _ _ _ _ _ _) := (by first | exact Lies.on La.out hb' | exact Lies.on (Lies.alloc La.out _) hb'); replace HT : Hid (Tab _) := (by first | exact HT.out.below hb' | exact (HT.out.alloc _).below hb'); replace hA : Hid (Below W.heap.size W _) := (by first | exact below_join hA.out hb' | exact below_join (hA.out.alloc hA.out.size _) hb'); (try clear La0 La1 La2 La3 LaL); have La0 := La.out.c0; have La1 := La.out.c1; have La2 := La.out.c2; have La3 := La.out.c3; have LaL := La.out.lt; clear hb'))
      go_ret
      exact ⟨rfl, hA.out⟩
  · have hor := HS.out hy
    clear HS
    rcases hor with hd | ⟨j, hj, hd⟩
    all_goals
      subst hd
      unfold cfv Cm.noF at HD
      dsimp only at HD
      cases a2
      all_goals
        cases y
        all_goals
          first
          | exact absurd rfl hy
          | skip
            first | rw [ht] at hlast | rw [hf] at hlast
            first | rw [ht] at HD | rw [hf] at HD
            go_enter Tryd.func4, Tryd.ntmps4
            go_wp2_with (first | (go_at_call 7; refine (known4_any _ HT.out).mono ?_; rintro e w' ⟨rfl, hb'⟩; replace La : Hid (Lies _ _ _ _ _ _) := (by first | exact Lies.on La.out hb' | exact Lies.on (Lies.alloc La.out _) hb'); replace HT : Hid (Tab _) := (by first | exact HT.out.below hb' | exact (HT.out.alloc _).below hb'); replace hA : Hid (Below W.heap.size W _) := (by first | exact below_join hA.out hb' | exact below_join (hA.out.alloc hA.out.size _) hb'); (try clear La0 La1 La2 La3 LaL); have La0 := La.out.c0; have La1 := La.out.c1; have La2 := La.out.c2; have La3 := La.out.c3; have LaL := La.out.lt; clear hb') | (go_at_call 9; refine (few4_any _ _ _ _ _).mono ?_; rintro e w' ⟨rfl, hb'⟩; replace La : Hid (Lies _ _ _ _ _ _) := (by first | exact Lies.on La.out hb' | exact Lies.on (Lies.alloc La.out _) hb'); replace HT : Hid (Tab _) := (by first | exact HT.out.below hb' | exact (HT.out.alloc _).below hb'); replace hA : Hid (Below W.heap.size W _) := (by first | exact below_join hA.out hb' | exact below_join (hA.out.alloc hA.out.size _) hb'); (try clear La0 La1 La2 La3 LaL); have La0 := La.out.c0; have La1 := La.out.c1; have La2 := La.out.c2; have La3 := La.out.c3; have LaL := La.out.lt; clear hb') | (go_at_call 8; refine (HL.out _ HT.out).mono ?_; rintro e w' ⟨rfl, hb'⟩; replace La : Hid (Lies _ _ _ _ _ _) := (by first | exact Lies.on La.out hb' | exact Lies.on (Lies.alloc La.out _) hb'); replace HT : Hid (Tab _) := (by first | exact HT.out.below hb' | exact (HT.out.alloc _).below hb'); replace hA : Hid (Below W.heap.size W _) := (by first | exact below_join hA.out hb' | exact below_join (hA.out.alloc hA.out.size _) hb'); (try clear La0 La1 La2 La3 LaL); have La0 := La.out.c0; have La1 := La.out.c1; have La2 := La.out.c2; have La3 := La.out.c3; have LaL := La.out.lt; clear hb') | (go_at_call 10; refine (HC.out _ HT.out).mono ?_; rintro e w' ⟨rfl, hb'⟩; replace La : Hid (Lies _ _ _ _ _ _) := (by first | exact Lies.on La.out hb' | exact Lies.on (Lies.alloc La.out _) hb'); replace HT : Hid (Tab _) := (by first | exact HT.out.below hb' | exact (HT.out.alloc _).below hb'); replace hA : Hid (Below W.heap.size W _) := (by first | exact below_join hA.out hb' | exact below_join (hA.out.alloc hA.out.size _) hb'); (try clear La0 La1 La2 La3 LaL); have La0 := La.out.c0; have La1 := La.out.c1; have La2 := La.out.c2; have La3 := La.out.c3; have LaL := La.out.lt; clear hb') | (go_at_call 11; refine (HD.out _ HT.out).mono ?_; rintro e w' ⟨rfl, hb'⟩; replace La : Hid (Lies _ _ _ _ _ _) := (by first | exact Lies.on La.out hb' | exact Lies.on (Lies.alloc La.out _) hb'); replace HT : Hid (Tab _) := (by first | exact HT.out.below hb' | exact (HT.out.alloc _).below hb'); replace hA : Hid (Below W.heap.size W _) := (by first | exact below_join hA.out hb' | exact below_join (hA.out.alloc hA.out.size _) hb'); (try clear La0 La1 La2 La3 LaL); have La0 := La.out.c0; have La1 := La.out.c1; have La2 := La.out.c2; have La3 := La.out.c3; have LaL := La.out.lt; clear hb'))
            all_goals
              go_ret
              first | exact ⟨rfl, hA.out.alloc hA.out.size _⟩ | exact ⟨ret_bool (decide_eq_true (by omega)), hA.out.alloc hA.out.size _⟩
theorem walk (x0 : Bool) (n0 : Int) (r0 : Bool) (d0 : ByteArray) (w0 : (Lit.int .u32 n0).wf = true) (u0 : d0.size ≤ maxLen) (a1 : Int) (w1 : (Lit.int .u8 a1).wf = true) (a2 : Bool) (W : World) (hT : Tab W) :
    Calls Tryd.prog 4 #[.agg #[.bool x0, .int .u32 n0, .bool r0, .string d0], .int .u8 a1, .bool a2] W fun e w' => e = .returned (.bool true) ∧ Below W.heap.size W w' := by
  obtain ⟨m0, rfl, h0⟩ := u32_nat w0
  obtain ⟨m1, rfl, h1⟩ := u8_nat w1
  exact walkN x0 m0 r0 d0 h0 m1 h1 a2 W hT
theorem own : ownKnob Tryd.prog.godebug = none := by kernel_rfl
theorem contract (H : Type) (enc : TypeId × Value → H) (W : World) (base : Nat) (args : Array Value) (ds gs : List (DataW H)) (before : List MemPlace)
    (hval0 : ∀ (j : Nat) t v, Tryd.f4.params[j]? = some t → args[j]? = some v → Value.okWide Tryd.prog W .any base t v)
    (hW : DataW.Whole enc Tryd.prog Tryd.f4.params.toList Rows.codeSixSpec.vars false W args.toList ds gs before) (hL : laidMetH Tryd.prog Rows.codeSixRow.laid W) :
    Calls Tryd.prog 4 args W fun e W' => ∃ v, e = .returned v ∧ Rows.codeSixSpec.post enc Tryd.prog Tryd.f4 false true false false W args v W' := by
  have hval : ∀ (j : Nat) t v, Tryd.f4.params[j]? = some t → args[j]? = some v → Value.okWide Tryd.prog W .any base t v := hval0
  have hW' := hW
  obtain ⟨p, q, hA0, hV, rfl, hfz, hnd⟩ := hW
  have hA : DataW.TrodAll enc Tryd.prog W 0 (fun _ => true) true Tryd.f4.params.toList args.toList ds p := hA0
  rw [Tryd.params4] at hA hval
  obtain ⟨v0, vs0, d0, ds0, p0, q0, hargs, rfl, rfl, h0, rr0⟩ := trodAll_cons hA
  obtain ⟨v1, vs1, d1, ds1, p1, q1, rfl, rfl, rfl, h1, rr1⟩ := trodAll_cons rr0
  obtain ⟨v2, vs2, d2, ds2, p2, q2, rfl, rfl, rfl, h2, rr2⟩ := trodAll_cons rr1
  obtain ⟨rfl, rfl, rfl⟩ := trodAll_nil rr2
  obtain rfl : args = #[v0, v1, v2] := by cases args; simp_all
  obtain ⟨rfl, rfl⟩ := trodVars_none hV
  obtain ⟨e0, e1, e2, e3, y0, y1, y2, y3, n0, rfl, rfl, rfl, k0, k1, k2, k3⟩ := Joins.open_agg4 Tryd.underlying24 (by kernel_rfl) (by kernel_rfl) (hval 0 24 v0 rfl rfl) h0
  obtain ⟨x0, hx0, rfl⟩ := DataW.trod_bool Tryd.underlying4 k0
  obtain ⟨n0, hx1, rfl, w0⟩ := DataW.trod_int Tryd.underlying22 k1
  obtain ⟨r0, hx2, rfl⟩ := DataW.trod_bool Tryd.underlying4 k2
  obtain ⟨d0, hx3, rfl, u0⟩ := DataW.trod_string Tryd.underlying9 k3
  obtain rfl := List.singleton_inj.1 hx0
  obtain rfl := List.singleton_inj.1 hx1
  obtain rfl := List.singleton_inj.1 hx2
  obtain rfl := List.singleton_inj.1 hx3
  clear k0 k1 k2 k3 hx0 hx1 hx2 hx3
  obtain ⟨a1, rfl, rfl, rfl, w1⟩ := open_int Tryd.underlying5 (hval 1 5 v1 rfl rfl) h1
  obtain ⟨a2, rfl, rfl, rfl⟩ := open_bool Tryd.underlying4 (hval 2 4 v2 rfl rfl) h2
  clear hA0 hval0
  refine (walk x0 n0 r0 d0 w0 u0 a1 w1 a2 W (tab_of_laid hL)).mono fun e W' ⟨he, bel⟩ => ?_
  subst he
  exact ⟨_, rfl, _, _, _, [], _, [], hW', trodAll_mk1 (shut_bool Tryd.underlying4 _), (trodAll_cons_mk (shut_frame w0 u0) (trodAll_cons_mk (shut_int Tryd.underlying5 w1) (trodAll_cons_mk (shut_bool Tryd.underlying4 a2) trodAll_mk0))), rfl, bel.frame _, fun h => by cases h⟩
theorem laid_met (os : Os) : laidMet Tryd.prog Rows.codeSixRow.laid ((tabWorld os).forCall (fun _ _ => 0) ⟨#[], #[.agg #[.bool false, .int .u32 0, .bool false, .string ByteArray.empty], .int .u8 0, .bool false], []⟩).memory :=
  laidMet_of_run' 8 (by kernel_rfl) (by kernel_rfl)
theorem reads (os : Os) {H : Type} (enc : TypeId × Value → H) : ∃ places, DataW.whole enc Tryd.prog ((tabWorld os).forCall (fun _ _ => 0) ⟨#[], #[.agg #[.bool false, .int .u32 0, .bool false, .string ByteArray.empty], .int .u8 0, .bool false], []⟩).memory Tryd.f4.params.toList Rows.codeSixSpec.vars false #[Value.agg #[.bool false, .int .u32 0, .bool false, .string ByteArray.empty], .int .u8 0, .bool false].toList 8 = some ([.agg [.lit (.bool false), .lit (.int .u32 0), .lit (.bool false), .lit (.string [])], .lit (.int .u8 0), .lit (.bool false)], [], places) :=
  ⟨[], by kernel_rfl⟩
set_option maxRecDepth 100000 in
theorem lifted (os : Os) (started : os.Started) (H : Type) (enc : TypeId × Value → H) (F : Stop.Interp) :
    ReturnsInHanded {} Tryd.checked os 4 .any ((OpenSpec.ofChange Rows.codeSixSpec).preRow enc Tryd.prog Tryd.f4 Rows.codeSixRow.domain false Rows.codeSixRow.laid) (((OpenSpec.ofChange Rows.codeSixSpec).at F).post enc Tryd.prog Tryd.f4 false true false false) := by
  obtain ⟨places, hx⟩ := reads os enc
  refine returnsInHanded_of_row (C := Tryd.checked) (s := OpenSpec.ofChange Rows.codeSixSpec) own started (by kernel_rfl) Tryd.func4
    (witness_row_at (enc := enc) (C := Tryd.checked) false (tabWorld os) #[.agg #[.bool false, .int .u32 0, .bool false, .string ByteArray.empty], .int .u8 0, .bool false] rfl (by kernel_rfl) (by kernel_rfl) (by kernel_rfl)
      (OpenSpec.preRow_of_cond 8 hx (by kernel_rfl) (fun k hk => by cases hk) (by kernel_rfl) (laid_met os))) ?_
  intro W base args ds gs before hval hW _ _ _ hL _ _
  exact contract H enc W base args ds gs before hval hW hL
theorem said : Rows.CodeSixSaid :=
  OpenClaim.holds_of_cond 4 Tryd.f4 rfl rfl rfl rfl rfl rfl rfl ⟨rfl, rfl, rfl, rfl, rfl⟩ rfl rfl rfl rfl rfl (by kernel_rfl) Tryd.func4 (by kernel_rfl)
    (of_decide_eq_true (by kernel_rfl)) (by unfold Func.isWrapper; first | (rw [if_pos (by decide +kernel)]; kernel_rfl) | (rw [if_neg (by decide +kernel)]; exact ⟨rfl, rfl⟩))
    (fun os started H enc _ F => by rw [OpenClaim.pre_eq_preRow]; exact lifted os started H enc F)
theorem plain (f : FuncId) (fn : Func) (hf : Tryd.pinned.checked.prog.funcNamed "ostinato/ostinatolaw4.CodeSix" = some f) (hfn : Tryd.pinned.checked.prog.funcs[f]? = some fn) :
    false = Tryd.pinned.checked.prog.looks [] ∧ ∀ (j : Nat) t, fn.params[j]? = some t → Tryd.pinned.checked.prog.wantsStandIn t = false := by
  obtain rfl : f = 4 := Option.some.inj ((show Tryd.prog.funcNamed "ostinato/ostinatolaw4.CodeSix" = some 4 by kernel_rfl).symm.trans hf) |>.symm
  obtain rfl : fn = Tryd.f4 := (Option.some.inj (Tryd.func4.symm.trans hfn)).symm
  refine ⟨by kernel_rfl, fun j t ht => ?_⟩
  rw [Tryd.params4] at ht
  have hm : t ∈ [24, 5, 4] := by simpa using Array.mem_of_getElem? ht
  have hall : ([24, 5, 4].all fun u => !Tryd.prog.wantsStandIn u) = true := by kernel_rfl
  exact (show Tryd.prog.wantsStandIn t = false by simpa using List.all_eq_true.1 hall t hm)
end Go.Proofs.YtaphdehhnnglgabDoor.codeSix
namespace Go.Proofs.YtaphdehhnnglgabDoor
/-- The statement. -/
theorem codeSix_holds : Rows.CodeSixCardSaid :=
  Claim7.holds_tied_plain_at .later [] _ _ _ _ codeSix.said (fun _ h => by cases h) (by kernel_rfl) (fun _ h => by cases h) codeSix_row_tie rfl ⟨rfl, rfl⟩ (by kernel_rfl) rfl codeSix.plain (by kernel_rfl)
#print axioms codeSix_holds
end Go.Proofs.YtaphdehhnnglgabDoor
