/- What the document's own Is, Arb, Body of frames answer, over their text. -/
import Derived.Test.YtoohmpkhljfpbaaDoorU5
import Derived.Test.YtoohmpkhljfpbaaDoorU1
import Derived.Deep.QuietTactic
import Derived.BigQuiet
namespace Go.Proofs.YtoohmpkhljfpbaaDoor
open Go.RowKit
theorem isEmpty_data (d : ByteArray) : d.toList.isEmpty = d.data.toList.isEmpty := by rw [ByteArray.toList_eq]
theorem isF_dec (x : Bool) (n : Nat) (r : Bool) (d : ByteArray) : Fm.isF x n r d.data.toList = (decide ((n : Int) < if x then 536870912 else 2048) && (decide ((d.size : Int) ≤ 8) && (!r || d.toList.isEmpty))) := by
  rw [isEmpty_data]
  unfold Fm.isF Fm.top
  have e1 : decide (n < if x = true then 536870912 else 2048) = decide ((n : Int) < if x = true then 536870912 else 2048) := by
    cases x
    · exact decide_eq_decide.2 (by simp only [Bool.false_eq_true, if_false]; omega)
    · exact decide_eq_decide.2 (by simp only [if_true]; omega)
  have e2 : decide (d.data.toList.length ≤ 8) = decide ((d.size : Int) ≤ 8) := decide_eq_decide.2 (by rw [show d.data.toList.length = d.size from by simp]; omega)
  rw [e1, e2]
set_option maxRecDepth 100000 in
set_option maxHeartbeats 1000000 in
theorem refFIs_any (x : Bool) (n : Nat) (r : Bool) (d : ByteArray) (w : World) :
    Calls Tryd.prog 9 #[.agg #[.bool x, .int .u32 n, .bool r, .string d]] w fun e w' => e = .returned (.bool (Fm.isF x n r d.data.toList)) ∧ Below w.heap.size w w' := by
  have HV : Hid (_) := isF_dec x n r d
  generalize Fm.isF x n r d.data.toList = res at *
  cases x
  · have hx : (if false = true then (536870912 : Int) else 2048) = 2048 := rfl
    rw [hx] at HV
    clear hx
    cases h1 : decide ((n : Int) < 2048)
    · have hv : Hid (res = false) := by show _ = _; rw [HV.out, h1]; rfl
      go_enter Tryd.func9, Tryd.ntmps9
      go_wp2
      go_ret
      exact ⟨ret_bool hv.out.symm, (Below.refl _ _).alloc (Nat.le_refl _) _⟩
    · cases h2 : decide ((d.size : Int) ≤ 8)
      · have hv : Hid (res = false) := by show _ = _; rw [HV.out, h1, h2]; rfl
        go_enter Tryd.func9, Tryd.ntmps9
        go_wp2
        go_ret
        exact ⟨ret_bool hv.out.symm, (Below.refl _ _).alloc (Nat.le_refl _) _⟩
      · cases r
        · have hv : Hid (res = true) := by show _ = _; rw [HV.out, h1, h2]; rfl
          go_enter Tryd.func9, Tryd.ntmps9
          go_wp2
          go_ret
          exact ⟨ret_bool hv.out.symm, (Below.refl _ _).alloc (Nat.le_refl _) _⟩
        · have hv : Hid (res = d.toList.isEmpty) := by show _ = _; rw [HV.out, h1, h2]; rfl
          go_enter Tryd.func9, Tryd.ntmps9
          go_wp2
          go_ret
          exact ⟨ret_bool hv.out.symm, (Below.refl _ _).alloc (Nat.le_refl _) _⟩
  · have hx : (if true = true then (536870912 : Int) else 2048) = 536870912 := rfl
    rw [hx] at HV
    clear hx
    cases h1 : decide ((n : Int) < 536870912)
    · have hv : Hid (res = false) := by show _ = _; rw [HV.out, h1]; rfl
      go_enter Tryd.func9, Tryd.ntmps9
      go_wp2
      go_ret
      exact ⟨ret_bool hv.out.symm, (Below.refl _ _).alloc (Nat.le_refl _) _⟩
    · cases h2 : decide ((d.size : Int) ≤ 8)
      · have hv : Hid (res = false) := by show _ = _; rw [HV.out, h1, h2]; rfl
        go_enter Tryd.func9, Tryd.ntmps9
        go_wp2
        go_ret
        exact ⟨ret_bool hv.out.symm, (Below.refl _ _).alloc (Nat.le_refl _) _⟩
      · cases r
        · have hv : Hid (res = true) := by show _ = _; rw [HV.out, h1, h2]; rfl
          go_enter Tryd.func9, Tryd.ntmps9
          go_wp2
          go_ret
          exact ⟨ret_bool hv.out.symm, (Below.refl _ _).alloc (Nat.le_refl _) _⟩
        · have hv : Hid (res = d.toList.isEmpty) := by show _ = _; rw [HV.out, h1, h2]; rfl
          go_enter Tryd.func9, Tryd.ntmps9
          go_wp2
          go_ret
          exact ⟨ret_bool hv.out.symm, (Below.refl _ _).alloc (Nat.le_refl _) _⟩
end Go.Proofs.YtoohmpkhljfpbaaDoor
/- What the document's own Arb, Body of frames answer, over their text. -/
namespace Go.Proofs.YtoohmpkhljfpbaaDoor
open Go.RowKit
theorem below_drewN {B : Nat} {a b : World} (h : Below B a b) (n : Nat) : Below B a (b.drewN n) := h.trans ⟨rfl, rfl, rfl, Nat.le_refl _, fun _ _ => rfl⟩
theorem mk_row_app (a b : List Bool) : ByteArray.mk (Bm.row (a ++ b)).toArray = ByteArray.mk (Bm.row a).toArray ++ ByteArray.mk (Bm.row b).toArray := by
  rw [Bm.str_app]; simp [Bm.row]
theorem arb_std (n : Nat) (r : Bool) : ByteArray.mk (Bm.row (Fm.arb0 false n r)).toArray = ByteArray.mk #[48] ++ ByteArray.mk (Bm.row (Bm.ofB n 11)).toArray ++ ByteArray.mk #[Bm.sign r] ++ ByteArray.mk #[48] := by
  have e : Fm.arb0 false n r = (([false] ++ Bm.ofB n 11) ++ [r]) ++ [false] := by unfold Fm.arb0; simp
  rw [e, mk_row_app, mk_row_app, mk_row_app]
  rfl
theorem arb_ext (n : Nat) (r : Bool) : ByteArray.mk (Bm.row (Fm.arb0 true n r)).toArray = ByteArray.mk #[48] ++ ByteArray.mk (Bm.row (Bm.ofB (n / 262144) 11)).toArray ++ ByteArray.mk #[49, 49] ++ ByteArray.mk (Bm.row (Bm.ofB n 18)).toArray ++ ByteArray.mk #[Bm.sign r] := by
  have e : Fm.arb0 true n r = ((([false] ++ Bm.ofB (n / 262144) 11) ++ [true, true]) ++ Bm.ofB n 18) ++ [r] := by unfold Fm.arb0; simp
  rw [e, mk_row_app, mk_row_app, mk_row_app, mk_row_app]
  rfl
theorem size_ofB (n k : Nat) : (ByteArray.mk (Bm.row (Bm.ofB n k)).toArray).size = k := by rw [size_str, Bm.length_row, Bm.length_ofB]
theorem refOf_k (n k : Nat) (hk : k ≤ 64) (hn : n < 18446744073709551616) (w : World) (x : Int) (hx : x = (k : Int)) (y : Int) (hy : y = (n : Int)) :
    Calls Tryd.prog 34 #[.int .u64 y, .int .i64 x] w fun e w' => e = .returned (.string ⟨(Bm.row (Bm.ofB n k)).toArray⟩) ∧ w' = w := by
  subst hx hy
  have h := refOf_any n (k : Int) w hn
  rw [show Bm.clamp (k : Int) = k from by unfold Bm.clamp; omega] at h
  exact h
set_option maxRecDepth 100000 in
set_option maxHeartbeats 1000000 in
theorem refFArb_any (x : Bool) (n : Nat) (r : Bool) (d : ByteArray) (w : World) (hn : n < 4294967296) :
    Calls Tryd.prog 23 #[.agg #[.bool x, .int .u32 n, .bool r, .string d]] w fun e w' => e = .returned (.string ⟨(Bm.row (Fm.arb x n r d.data.toList)).toArray⟩) ∧ Below w.heap.size w w' := by
  have HI : Hid (∀ w, Calls Tryd.prog 9 #[.agg #[.bool x, .int .u32 n, .bool r, .string d]] w fun e w' => e = .returned (.bool (Fm.isF x n r d.data.toList)) ∧ Below w.heap.size w w') := fun w => refFIs_any x n r d w
  have HA : Hid (Fm.arb x n r d.data.toList = if Fm.isF x n r d.data.toList then Fm.arb0 x n r else []) := rfl
  generalize Fm.arb x n r d.data.toList = res at *
  generalize Fm.isF x n r d.data.toList = b at *
  cases b
  · have HE : Hid (res = []) := HA.out
    go_enter Tryd.func23, Tryd.ntmps23
    go_wp2_with fail
    refine (HI.out _).mono ?_
    rintro e w1 ⟨rfl, hb1⟩
    have hb2 := below_join ((Below.refl _ _).alloc (Nat.le_refl _) _) hb1
    go_wp2
    go_ret
    exact ⟨by rw [HE.out]; rfl, hb2⟩
  · have HE : Hid (res = Fm.arb0 x n r) := HA.out
    clear HA
    go_enter Tryd.func23, Tryd.ntmps23
    go_wp2_with fail
    refine (HI.out _).mono ?_
    rintro e w1 ⟨rfl, hb1⟩
    have c0 : w1.cell? ⟨w.heap.size, 0, none⟩ = some (.bool x) := (hb1.cell (p := ⟨w.heap.size, 0, none⟩) (by simp)).trans (by rw [cell_of_row _ _ _ _ _ _ (heap_alloc_new _ _)]; rfl)
    have c1 : w1.cell? ⟨w.heap.size, 1, none⟩ = some (.int .u32 n) := (hb1.cell (p := ⟨w.heap.size, 1, none⟩) (by simp)).trans (by rw [cell_of_row _ _ _ _ _ _ (heap_alloc_new _ _)]; rfl)
    have c2 : w1.cell? ⟨w.heap.size, 2, none⟩ = some (.bool r) := (hb1.cell (p := ⟨w.heap.size, 2, none⟩) (by simp)).trans (by rw [cell_of_row _ _ _ _ _ _ (heap_alloc_new _ _)]; rfl)
    have hb2 := below_join ((Below.refl _ _).alloc (Nat.le_refl _) _) hb1
    clear hb1 HI
    go_wp2_with fail
    refine (refBit_any _ _).mono ?_
    rintro e w2 ⟨rfl, rfl⟩
    cases x
    · have HF : Hid (_) := arb_std n r
      have hA := size_ofB n 11
      go_wp2_with fail
      refine (refOf_k n 11 (by decide) (by omega) _ _ rfl _ rfl).mono ?_
      rintro e w3 ⟨rfl, rfl⟩
      generalize ByteArray.mk (Bm.row (Bm.ofB n 11)).toArray = A at *
      go_wp2
      go_ret
      exact ⟨by rw [HE.out, HF.out]; rfl, hb2⟩
    · have HF : Hid (_) := arb_ext n r
      have hA := size_ofB (n / 262144) 11
      have hB := size_ofB n 18
      have H1 : Hid (∀ w, Calls Tryd.prog 34 #[.int .u64 ((n : Int) / 262144), .int .i64 11] w fun e w' => e = .returned (.string ⟨(Bm.row (Bm.ofB (n / 262144) 11)).toArray⟩) ∧ w' = w) := fun w => refOf_k (n / 262144) 11 (by decide) (by omega) w _ rfl _ (by omega)
      have H2 : Hid (∀ w, Calls Tryd.prog 34 #[.int .u64 (n : Int), .int .i64 18] w fun e w' => e = .returned (.string ⟨(Bm.row (Bm.ofB n 18)).toArray⟩) ∧ w' = w) := fun w => refOf_k n 18 (by decide) (by omega) w _ rfl _ rfl
      generalize ByteArray.mk (Bm.row (Bm.ofB (n / 262144) 11)).toArray = A at *
      generalize ByteArray.mk (Bm.row (Bm.ofB n 18)).toArray = B at *
      go_wp2_with fail
      go_quiet (first | (go_at_call_of 34 (Value.int IntKind.i64 11); exact Calls.quiet_of_same (H1.out _)) | (go_at_call_of 34 (Value.int IntKind.i64 18); exact Calls.quiet_of_same (H2.out _)))
      all_goals
        go_wp2
        go_ret
        exact ⟨by rw [HE.out, HF.out]; rfl, below_drewN hb2 _⟩
theorem body_cat (x : Bool) (n : Nat) (r : Bool) (d : List UInt8) : ByteArray.mk (Bm.row (Fm.body0 x n r d)).toArray = (if x then ByteArray.mk (Bm.row (Fm.arb0 x n r)).toArray ++ ByteArray.mk #[48] ++ ByteArray.mk #[48] else ByteArray.mk (Bm.row (Fm.arb0 x n r)).toArray ++ ByteArray.mk #[48]) ++ ByteArray.mk (Bm.row (Bm.ofB d.length 4)).toArray ++ ByteArray.mk (Bm.row (Bm.fromB d)).toArray := by
  have e : Fm.body0 x n r d = ((Fm.arb0 x n r ++ (if x then [false, false] else [false])) ++ Bm.ofB d.length 4) ++ Bm.fromB d := by unfold Fm.body0; simp
  rw [e, mk_row_app, mk_row_app, mk_row_app]
  cases x
  · rfl
  · rw [if_pos rfl, if_pos rfl, ByteArray.append_assoc]
    rfl
theorem size_arb0 (x : Bool) (n : Nat) (r : Bool) : (ByteArray.mk (Bm.row (Fm.arb0 x n r)).toArray).size = if x then 33 else 14 := by rw [size_str, Bm.length_row, Fm.length_arb0]
theorem size_fromB (d : List UInt8) : (ByteArray.mk (Bm.row (Bm.fromB d)).toArray).size = 8 * d.length := by rw [size_str, Bm.length_row, Bm.length_fromB]
end Go.Proofs.YtoohmpkhljfpbaaDoor
