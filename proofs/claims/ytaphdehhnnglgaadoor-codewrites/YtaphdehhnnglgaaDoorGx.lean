/- What a head tells: rtr, wrong, bytes, frame, over the program's own text. -/
import Derived.Test.YtaphdehhnnglgaaDoorGw
namespace Go.Proofs.YtaphdehhnnglgaaDoor
open Go.RowKit
theorem hcell {w w1 : World} {t : TypeId} (h : Fm.Hd) (hb : Below (w.alloc (.cells (hcs h) t)).heap.size (w.alloc (.cells (hcs h) t)) w1) (k : Nat) (v : Value) (hv : (hcs h)[k]? = some v) : w1.cell? ⟨w.heap.size, k, none⟩ = some v :=
  (hb.cell (p := ⟨w.heap.size, k, none⟩) (by simp)).trans (by rw [cell_of_row _ _ _ _ _ _ (heap_alloc_new _ _)]; exact hv)
set_option maxHeartbeats 400000 in
theorem rtr_any (h : Fm.Hd) (w : World) : Calls Tryd.prog 72 #[.agg (hcs h)] w fun e w' => e = .returned (.bool h.rtr) ∧ Below w.heap.size w w' := by
  have HX : Hid (∀ w, Calls Tryd.prog 59 #[.agg (hcs h)] w fun e w' => e = .returned (.bool h.ext) ∧ Below w.heap.size w w') := fun w => ext_any h w
  have HR : Hid (h.rtr = if h.ext then ((h.a5 : Int) == 1) else ((h.a2 : Int) == 1)) := by show _ = _; rw [eq1_nat, eq1_nat]; rfl
  have HC : Hid (∀ {w w1 : World} {t : TypeId} (_ : Below (w.alloc (.cells (hcs h) t)).heap.size (w.alloc (.cells (hcs h) t)) w1) (k : Nat) (v : Value) (_ : (hcs h)[k]? = some v), w1.cell? ⟨w.heap.size, k, none⟩ = some v) := fun hb k v hv => hcell h hb k v hv
  unfold hcs at *
  generalize h.rtr = r at *
  generalize h.ext = x at *
  go_enter Tryd.func72, Tryd.ntmps72
  go_wp2_with fail
  refine (HX.out _).mono ?_; rintro e w1 ⟨rfl, hb1⟩
  have c2 := HC.out hb1 2 _ rfl
  have c5 := HC.out hb1 5 _ rfl
  have hb2 := below_join ((Below.refl _ _).alloc (Nat.le_refl _) _) hb1
  clear hb1
  cases x
  all_goals
    go_wp2
    go_ret
    exact ⟨ret_bool HR.out.symm, hb2⟩
set_option maxHeartbeats 400000 in
theorem wrong_any (h : Fm.Hd) (w : World) : Calls Tryd.prog 71 #[.agg (hcs h)] w fun e w' => e = .returned (.bool h.wrong) ∧ Below w.heap.size w w' := by
  have HX : Hid (∀ w, Calls Tryd.prog 59 #[.agg (hcs h)] w fun e w' => e = .returned (.bool h.ext) ∧ Below w.heap.size w w') := fun w => ext_any h w
  have HR : Hid (h.wrong = (((h.a0 : Int) == 1) || (h.ext && ((h.a2 : Int) == 0)))) := by show _ = _; rw [eq1_nat, eq0_nat]; rfl
  have HC : Hid (∀ {w w1 : World} {t : TypeId} (_ : Below (w.alloc (.cells (hcs h) t)).heap.size (w.alloc (.cells (hcs h) t)) w1) (k : Nat) (v : Value) (_ : (hcs h)[k]? = some v), w1.cell? ⟨w.heap.size, k, none⟩ = some v) := fun hb k v hv => hcell h hb k v hv
  unfold hcs at *
  generalize h.wrong = r at *
  generalize h.ext = x at *
  cases h0 : ((h.a0 : Int) == 1)
  · rw [h0] at HR
    go_enter Tryd.func71, Tryd.ntmps71
    go_wp2_with fail
    refine (HX.out _).mono ?_; rintro e w1 ⟨rfl, hb1⟩
    have c2 := HC.out hb1 2 _ rfl
    have hb2 := below_join ((Below.refl _ _).alloc (Nat.le_refl _) _) hb1
    clear hb1
    cases x
    all_goals
      go_wp2
      go_ret
      exact ⟨ret_bool HR.out.symm, hb2⟩
  · rw [h0] at HR
    go_enter Tryd.func71, Tryd.ntmps71
    go_wp2
    go_ret
    exact ⟨ret_bool HR.out.symm, (Below.refl _ _).alloc (Nat.le_refl _) _⟩
set_option maxHeartbeats 400000 in
theorem bytesOf_any (h : Fm.Hd) (w : World) : Calls Tryd.prog 64 #[.agg (hcs h)] w fun e w' => e = .returned (.int .i64 h.bytes) ∧ Below w.heap.size w w' := by
  have HX : Hid (∀ w, Calls Tryd.prog 72 #[.agg (hcs h)] w fun e w' => e = .returned (.bool h.rtr) ∧ Below w.heap.size w w') := fun w => rtr_any h w
  have HR : Hid (h.bytes = if h.rtr then 0 else min h.a7 8) := rfl
  have hm : min (h.a7 : Int) 8 = ((min h.a7 8 : Nat) : Int) := by omega
  have hm8 : min h.a7 8 ≤ 8 := Nat.min_le_right _ _
  have HC : Hid (∀ {w w1 : World} {t : TypeId} (_ : Below (w.alloc (.cells (hcs h) t)).heap.size (w.alloc (.cells (hcs h) t)) w1) (k : Nat) (v : Value) (_ : (hcs h)[k]? = some v), w1.cell? ⟨w.heap.size, k, none⟩ = some v) := fun hb k v hv => hcell h hb k v hv
  unfold hcs at *
  generalize h.bytes = n at *
  generalize h.rtr = x at *
  generalize min h.a7 8 = m at *
  go_enter Tryd.func64, Tryd.ntmps64
  go_wp2_with fail
  refine (HX.out _).mono ?_; rintro e w1 ⟨rfl, hb1⟩
  have c7 := HC.out hb1 7 _ rfl
  have hb2 := below_join ((Below.refl _ _).alloc (Nat.le_refl _) _) hb1
  clear hb1
  cases x
  all_goals
    go_wp2
    go_ret
    exact ⟨by rw [HR.out]; rfl, hb2⟩
end Go.Proofs.YtaphdehhnnglgaaDoor
