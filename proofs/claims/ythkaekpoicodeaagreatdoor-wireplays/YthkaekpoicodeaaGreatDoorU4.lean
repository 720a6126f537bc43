/- What the ways of readLaid of package code share. -/
import Derived.Test.YthkaekpoicodeaaGreatDoorZ1
import Derived.Test.YthkaekpoicodeaaGreatDoorZ2
import Derived.Test.YthkaekpoicodeaaGreatDoorU3
import Derived.Test.YthkaekpoicodeaaGreatDoorU1
namespace Go.Proofs.YthkaekpoicodeaaGreatDoor
open Go.RowKit
theorem six_all {w : World} {g : Nat} {a b c d e f : Value} {t : TypeId} (h : w.heap[g]? = some (.cells #[a, b, c, d, e, f] t (0, 0))) :
    w.cell? ⟨g, 0, none⟩ = some a ∧ w.cell? ⟨g, 1, none⟩ = some b ∧ w.cell? ⟨g, 2, none⟩ = some c ∧ w.cell? ⟨g, 3, none⟩ = some d ∧ w.cell? ⟨g, 4, none⟩ = some e ∧ w.cell? ⟨g, 5, none⟩ = some f ∧
    w.frozen? ⟨g, 0, none⟩ = false ∧ w.frozen? ⟨g, 1, none⟩ = false ∧ w.frozen? ⟨g, 2, none⟩ = false ∧ w.frozen? ⟨g, 3, none⟩ = false ∧ w.frozen? ⟨g, 4, none⟩ = false ∧ w.frozen? ⟨g, 5, none⟩ = false := by
  obtain ⟨h0, h1, h2, h3, h4, h5⟩ := six_cells h
  exact ⟨h0, h1, h2, h3, h4, h5, frozen_of_row _ _ 0 _ _ h, frozen_of_row _ _ 1 _ _ h, frozen_of_row _ _ 2 _ _ h, frozen_of_row _ _ 3 _ _ h, frozen_of_row _ _ 4 _ _ h, frozen_of_row _ _ 5 _ _ h⟩
def lpv (p : (Cm.Fr × Bool × Nat) × Nat × Nat) : Value := .tuple #[.agg #[.bool p.1.1.1, .int .u32 p.1.1.2.1, .bool p.1.1.2.2.1, .string ⟨p.1.1.2.2.2.toArray⟩, .bool p.1.2.1, .int .i64 p.1.2.2], .int .i64 p.2.1, .int .i64 p.2.2]
theorem rlaid_eq (row U : List Bool) (z : Int) (f : Cm.Fr) (nn e : Nat) (h : Sm.unstuff row = (U, z)) (hp : Fm.parse U = (f, nn, e)) : Cm.rlaid row =
    if e = 12 then ((Cm.noF, false, 0), Cm.fbreak U, 12)
    else if (e = 0 ∧ nn + 15 ≤ U.length ∧ ((z < 0 ∧ Cm.place U (nn + 15) ≤ row.length) ∨ (Cm.place U (nn + 15) : Int) ≤ z)) then ((f, Bm.crc (U.take (nn + 15)) == 0, Cm.place U (nn + 15)), 0, 0)
    else if 0 ≤ z then ((Cm.noF, false, 0), z.toNat, 20) else ((Cm.noF, false, 0), row.length, 10) := by
  unfold Cm.rlaid
  simp only [h, hp]
theorem unB_range (l : List Bool) : ∀ (r : Nat × Bool) (o : List Bool) (i : Nat), -1 ≤ (Sm.unB r o i l).2 ∧ (Sm.unB r o i l).2 < i + l.length := by
  induction l with
  | nil => intro r o i; exact ⟨Int.le_refl _, by show (-1 : Int) < _; omega⟩
  | cons c t ih =>
    intro r o i
    unfold Sm.unB
    split
    · simp only [List.length_cons]; omega
    · have := ih (Sm.step r c) (if r.1 = 5 then o else o ++ [c]) (i + 1)
      simp only [List.length_cons]
      omega
end Go.Proofs.YthkaekpoicodeaaGreatDoor
/- What readLaid of package code answers, over the program's own text: some of its ways. -/
namespace Go.Proofs.YthkaekpoicodeaaGreatDoor
open Go.RowKit
set_option linter.unusedVariables false in
set_option maxRecDepth 100000 in
set_option maxHeartbeats 4000000 in
theorem rl_form (s E : ByteArray) (z : Int) (x : Bool) (n : Nat) (r : Bool) (D : ByteArray) (nn : Nat) (w : World) (hT : Tab w) (hnn : nn ≤ 103)
    (HU : Hid (∀ w, Calls Tryz.prog 115 #[.string s] w fun e w' => e = .returned (.tuple #[.string E, .int .i64 z]) ∧ Below w.heap.size w w'))
    (HP : Hid (∀ w, Tab w → Calls Tryz.prog 116 #[.string E] w fun e w' => e = .returned (.tuple #[.agg #[.bool x, .int .u32 n, .bool r, .string D], .int .i64 nn, .int .i64 12]) ∧ Below w.heap.size w w'))
    (fb : Nat) (HF : Hid (∀ w, Tab w → Calls Tryz.prog 117 #[.string E] w fun e w' => e = .returned (.int .i64 (fb : Int)) ∧ Below w.heap.size w w')) :
    Calls Tryz.prog 111 #[.string s] w fun e w' => e = .returned (.tuple #[.agg #[.bool false, .int .u32 0, .bool false, .string ⟨#[]⟩, .bool false, .int .i64 0], .int .i64 (fb : Int), .int .i64 12]) ∧ Below w.heap.size w w' := by
  have hT1 : Hid (Tab _) := hT.alloc (.cells #[.bool false, .int .u32 0, .bool false, .string ⟨#[]⟩, .bool false, .int .i64 0] 138)
  clear hT
  go_enter Tryz.func111, Tryz.ntmps111
  go_wp2_with fail
  refine (HU.out _).mono ?_
  rintro e w1 ⟨rfl, hb1⟩
  have HV1 : Hid (w1.heap[w.heap.size]? = some (.cells #[.bool false, .int .u32 0, .bool false, .string ⟨#[]⟩, .bool false, .int .i64 0] 138 (0, 0))) := (hb1.block w.heap.size (by simp)).trans (heap_alloc_new _ _)
  have hT2 : Hid (Tab w1) := hT1.out.below hb1
  have hb2 : Hid (Below w.heap.size w w1) := below_join ((Below.refl _ _).alloc (Nat.le_refl _) _) hb1
  clear hb1 hT1 HU
  go_wp2_with fail
  refine (HP.out _ hT2.out).mono ?_
  rintro e w2 ⟨rfl, hb3⟩
  have HV2 : Hid (w2.heap[w.heap.size]? = some (.cells #[.bool false, .int .u32 0, .bool false, .string ⟨#[]⟩, .bool false, .int .i64 0] 138 (0, 0))) := block_on (Array.getElem?_eq_some_iff.1 HV1.out).1 hb3 HV1.out
  have hT3 : Hid (Tab w2) := hT2.out.below hb3
  have hb4 : Hid (Below w.heap.size w w2) := below_join hb2.out hb3
  clear hb3 hb2 hT2 HP HV1
  have hlt2 : w.heap.size < w2.heap.size := (Array.getElem?_eq_some_iff.1 HV2.out).1
  have hb5 : Hid (Below w.heap.size w (w2.alloc (.cells #[.bool x, .int .u32 n, .bool r, .string D] 35))) := hb4.out.alloc hb4.out.size _
  go_wp2_with fail
  refine (HF.out _ (hT3.out.alloc _)).mono ?_
  rintro e w3 ⟨rfl, hb6⟩
  have HV3 : Hid (w3.heap[w.heap.size]? = some (.cells #[.bool false, .int .u32 0, .bool false, .string ⟨#[]⟩, .bool false, .int .i64 0] 138 (0, 0))) := block_on (by simp; omega) hb6 ((Below.heap_alloc w2 _ _ hlt2).trans HV2.out)
  have hb7 : Hid (Below w.heap.size w w3) := below_join hb5.out hb6
  clear hb4 hb5 hb6 hT3 HV2 HF
  obtain ⟨y0, y1, y2, y3, y4, y5, q0, q1, q2, q3, q4, q5⟩ := six_all HV3.out
  go_wp2
  exact bodyPost_ret (v := .tuple #[.agg #[.bool false, .int .u32 0, .bool false, .string ⟨#[]⟩, .bool false, .int .i64 0], .int .i64 (fb : Int), .int .i64 12]) (by simp [results, Tryz.results111, go_sem, y0, y1, y2, y3, y4, y5]) rfl ⟨rfl, (((((hb7.out.setCell (Nat.le_refl _) _).setCell (Nat.le_refl _) _).setCell (Nat.le_refl _) _).setCell (Nat.le_refl _) _).setCell (Nat.le_refl _) _).setCell (Nat.le_refl _) _⟩
set_option linter.unusedVariables false in
set_option maxRecDepth 100000 in
set_option maxHeartbeats 4000000 in
theorem rl_unfit_six (s E : ByteArray) (z : Int) (x : Bool) (n : Nat) (r : Bool) (D : ByteArray) (nn : Nat) (w : World) (hT : Tab w) (hnn : nn ≤ 103)
    (HU : Hid (∀ w, Calls Tryz.prog 115 #[.string s] w fun e w' => e = .returned (.tuple #[.string E, .int .i64 z]) ∧ Below w.heap.size w w'))
    (HP : Hid (∀ w, Tab w → Calls Tryz.prog 116 #[.string E] w fun e w' => e = .returned (.tuple #[.agg #[.bool x, .int .u32 n, .bool r, .string D], .int .i64 nn, .int .i64 0]) ∧ Below w.heap.size w w'))
    (hfit : decide ((nn : Int) + 15 ≤ (E.size : Int)) = false) (hz : decide (0 ≤ z) = true) :
    Calls Tryz.prog 111 #[.string s] w fun e w' => e = .returned (.tuple #[.agg #[.bool false, .int .u32 0, .bool false, .string ⟨#[]⟩, .bool false, .int .i64 0], .int .i64 z, .int .i64 20]) ∧ Below w.heap.size w w' := by
  have hT1 : Hid (Tab _) := hT.alloc (.cells #[.bool false, .int .u32 0, .bool false, .string ⟨#[]⟩, .bool false, .int .i64 0] 138)
  clear hT
  go_enter Tryz.func111, Tryz.ntmps111
  go_wp2_with fail
  refine (HU.out _).mono ?_
  rintro e w1 ⟨rfl, hb1⟩
  have HV1 : Hid (w1.heap[w.heap.size]? = some (.cells #[.bool false, .int .u32 0, .bool false, .string ⟨#[]⟩, .bool false, .int .i64 0] 138 (0, 0))) := (hb1.block w.heap.size (by simp)).trans (heap_alloc_new _ _)
  have hT2 : Hid (Tab w1) := hT1.out.below hb1
  have hb2 : Hid (Below w.heap.size w w1) := below_join ((Below.refl _ _).alloc (Nat.le_refl _) _) hb1
  clear hb1 hT1 HU
  go_wp2_with fail
  refine (HP.out _ hT2.out).mono ?_
  rintro e w2 ⟨rfl, hb3⟩
  have HV2 : Hid (w2.heap[w.heap.size]? = some (.cells #[.bool false, .int .u32 0, .bool false, .string ⟨#[]⟩, .bool false, .int .i64 0] 138 (0, 0))) := block_on (Array.getElem?_eq_some_iff.1 HV1.out).1 hb3 HV1.out
  have hT3 : Hid (Tab w2) := hT2.out.below hb3
  have hb4 : Hid (Below w.heap.size w w2) := below_join hb2.out hb3
  clear hb3 hb2 hT2 HP HV1
  have hlt2 : w.heap.size < w2.heap.size := (Array.getElem?_eq_some_iff.1 HV2.out).1
  have hb5 : Hid (Below w.heap.size w (w2.alloc (.cells #[.bool x, .int .u32 n, .bool r, .string D] 35))) := hb4.out.alloc hb4.out.size _
  clear hT3 hb4
  have HA := fun o => six_all ((Below.heap_alloc w2 o _ hlt2).trans HV2.out)
  have y0 := fun o => (HA o).1
  have y1 := fun o => (HA o).2.1
  have y2 := fun o => (HA o).2.2.1
  have y3 := fun o => (HA o).2.2.2.1
  have y4 := fun o => (HA o).2.2.2.2.1
  have y5 := fun o => (HA o).2.2.2.2.2.1
  have q0 := fun o => (HA o).2.2.2.2.2.2.1
  have q1 := fun o => (HA o).2.2.2.2.2.2.2.1
  have q2 := fun o => (HA o).2.2.2.2.2.2.2.2.1
  have q3 := fun o => (HA o).2.2.2.2.2.2.2.2.2.1
  have q4 := fun o => (HA o).2.2.2.2.2.2.2.2.2.2.1
  have q5 := fun o => (HA o).2.2.2.2.2.2.2.2.2.2.2
  clear HA hlt2
  go_wp2
  exact bodyPost_ret (v := .tuple #[.agg #[.bool false, .int .u32 0, .bool false, .string ⟨#[]⟩, .bool false, .int .i64 0], .int .i64 z, .int .i64 20]) (by simp [results, Tryz.results111, go_sem, y0, y1, y2, y3, y4, y5]) rfl ⟨rfl, (((((hb5.out.setCell (Nat.le_refl _) _).setCell (Nat.le_refl _) _).setCell (Nat.le_refl _) _).setCell (Nat.le_refl _) _).setCell (Nat.le_refl _) _).setCell (Nat.le_refl _) _⟩
end Go.Proofs.YthkaekpoicodeaaGreatDoor
/- What readLaid of package code answers, over the program's own text: some of its ways. -/
namespace Go.Proofs.YthkaekpoicodeaaGreatDoor
open Go.RowKit
set_option linter.unusedVariables false in
set_option maxRecDepth 100000 in
set_option maxHeartbeats 4000000 in
theorem rl_unfit_short (s E : ByteArray) (z : Int) (x : Bool) (n : Nat) (r : Bool) (D : ByteArray) (nn : Nat) (w : World) (hT : Tab w) (hnn : nn ≤ 103)
    (HU : Hid (∀ w, Calls Tryz.prog 115 #[.string s] w fun e w' => e = .returned (.tuple #[.string E, .int .i64 z]) ∧ Below w.heap.size w w'))
    (HP : Hid (∀ w, Tab w → Calls Tryz.prog 116 #[.string E] w fun e w' => e = .returned (.tuple #[.agg #[.bool x, .int .u32 n, .bool r, .string D], .int .i64 nn, .int .i64 0]) ∧ Below w.heap.size w w'))
    (hfit : decide ((nn : Int) + 15 ≤ (E.size : Int)) = false) (hz : decide (0 ≤ z) = false) :
    Calls Tryz.prog 111 #[.string s] w fun e w' => e = .returned (.tuple #[.agg #[.bool false, .int .u32 0, .bool false, .string ⟨#[]⟩, .bool false, .int .i64 0], .int .i64 (s.size : Int), .int .i64 10]) ∧ Below w.heap.size w w' := by
  have hT1 : Hid (Tab _) := hT.alloc (.cells #[.bool false, .int .u32 0, .bool false, .string ⟨#[]⟩, .bool false, .int .i64 0] 138)
  clear hT
  go_enter Tryz.func111, Tryz.ntmps111
  go_wp2_with fail
  refine (HU.out _).mono ?_
  rintro e w1 ⟨rfl, hb1⟩
  have HV1 : Hid (w1.heap[w.heap.size]? = some (.cells #[.bool false, .int .u32 0, .bool false, .string ⟨#[]⟩, .bool false, .int .i64 0] 138 (0, 0))) := (hb1.block w.heap.size (by simp)).trans (heap_alloc_new _ _)
  have hT2 : Hid (Tab w1) := hT1.out.below hb1
  have hb2 : Hid (Below w.heap.size w w1) := below_join ((Below.refl _ _).alloc (Nat.le_refl _) _) hb1
  clear hb1 hT1 HU
  go_wp2_with fail
  refine (HP.out _ hT2.out).mono ?_
  rintro e w2 ⟨rfl, hb3⟩
  have HV2 : Hid (w2.heap[w.heap.size]? = some (.cells #[.bool false, .int .u32 0, .bool false, .string ⟨#[]⟩, .bool false, .int .i64 0] 138 (0, 0))) := block_on (Array.getElem?_eq_some_iff.1 HV1.out).1 hb3 HV1.out
  have hT3 : Hid (Tab w2) := hT2.out.below hb3
  have hb4 : Hid (Below w.heap.size w w2) := below_join hb2.out hb3
  clear hb3 hb2 hT2 HP HV1
  have hlt2 : w.heap.size < w2.heap.size := (Array.getElem?_eq_some_iff.1 HV2.out).1
  have hb5 : Hid (Below w.heap.size w (w2.alloc (.cells #[.bool x, .int .u32 n, .bool r, .string D] 35))) := hb4.out.alloc hb4.out.size _
  clear hT3 hb4
  have HA := fun o => six_all ((Below.heap_alloc w2 o _ hlt2).trans HV2.out)
  have y0 := fun o => (HA o).1
  have y1 := fun o => (HA o).2.1
  have y2 := fun o => (HA o).2.2.1
  have y3 := fun o => (HA o).2.2.2.1
  have y4 := fun o => (HA o).2.2.2.2.1
  have y5 := fun o => (HA o).2.2.2.2.2.1
  have q0 := fun o => (HA o).2.2.2.2.2.2.1
  have q1 := fun o => (HA o).2.2.2.2.2.2.2.1
  have q2 := fun o => (HA o).2.2.2.2.2.2.2.2.1
  have q3 := fun o => (HA o).2.2.2.2.2.2.2.2.2.1
  have q4 := fun o => (HA o).2.2.2.2.2.2.2.2.2.2.1
  have q5 := fun o => (HA o).2.2.2.2.2.2.2.2.2.2.2
  clear HA hlt2
  go_wp2
  exact bodyPost_ret (v := .tuple #[.agg #[.bool false, .int .u32 0, .bool false, .string ⟨#[]⟩, .bool false, .int .i64 0], .int .i64 (s.size : Int), .int .i64 10]) (by simp [results, Tryz.results111, go_sem, y0, y1, y2, y3, y4, y5]) rfl ⟨rfl, (((((hb5.out.setCell (Nat.le_refl _) _).setCell (Nat.le_refl _) _).setCell (Nat.le_refl _) _).setCell (Nat.le_refl _) _).setCell (Nat.le_refl _) _).setCell (Nat.le_refl _) _⟩
set_option linter.unusedVariables false in
set_option maxRecDepth 100000 in
set_option maxHeartbeats 4000000 in
theorem rl_less_six (s E : ByteArray) (z : Int) (x : Bool) (n : Nat) (r : Bool) (D : ByteArray) (nn : Nat) (w : World) (hT : Tab w) (hnn : nn ≤ 103)
    (HU : Hid (∀ w, Calls Tryz.prog 115 #[.string s] w fun e w' => e = .returned (.tuple #[.string E, .int .i64 z]) ∧ Below w.heap.size w w'))
    (HP : Hid (∀ w, Tab w → Calls Tryz.prog 116 #[.string E] w fun e w' => e = .returned (.tuple #[.agg #[.bool x, .int .u32 n, .bool r, .string D], .int .i64 nn, .int .i64 10]) ∧ Below w.heap.size w w'))
    (hz : decide (0 ≤ z) = true) :
    Calls Tryz.prog 111 #[.string s] w fun e w' => e = .returned (.tuple #[.agg #[.bool false, .int .u32 0, .bool false, .string ⟨#[]⟩, .bool false, .int .i64 0], .int .i64 z, .int .i64 20]) ∧ Below w.heap.size w w' := by
  have hT1 : Hid (Tab _) := hT.alloc (.cells #[.bool false, .int .u32 0, .bool false, .string ⟨#[]⟩, .bool false, .int .i64 0] 138)
  clear hT
  go_enter Tryz.func111, Tryz.ntmps111
  go_wp2_with fail
  refine (HU.out _).mono ?_
  rintro e w1 ⟨rfl, hb1⟩
  have HV1 : Hid (w1.heap[w.heap.size]? = some (.cells #[.bool false, .int .u32 0, .bool false, .string ⟨#[]⟩, .bool false, .int .i64 0] 138 (0, 0))) := (hb1.block w.heap.size (by simp)).trans (heap_alloc_new _ _)
  have hT2 : Hid (Tab w1) := hT1.out.below hb1
  have hb2 : Hid (Below w.heap.size w w1) := below_join ((Below.refl _ _).alloc (Nat.le_refl _) _) hb1
  clear hb1 hT1 HU
  go_wp2_with fail
  refine (HP.out _ hT2.out).mono ?_
  rintro e w2 ⟨rfl, hb3⟩
  have HV2 : Hid (w2.heap[w.heap.size]? = some (.cells #[.bool false, .int .u32 0, .bool false, .string ⟨#[]⟩, .bool false, .int .i64 0] 138 (0, 0))) := block_on (Array.getElem?_eq_some_iff.1 HV1.out).1 hb3 HV1.out
  have hT3 : Hid (Tab w2) := hT2.out.below hb3
  have hb4 : Hid (Below w.heap.size w w2) := below_join hb2.out hb3
  clear hb3 hb2 hT2 HP HV1
  have hlt2 : w.heap.size < w2.heap.size := (Array.getElem?_eq_some_iff.1 HV2.out).1
  have hb5 : Hid (Below w.heap.size w (w2.alloc (.cells #[.bool x, .int .u32 n, .bool r, .string D] 35))) := hb4.out.alloc hb4.out.size _
  clear hT3 hb4
  have HA := fun o => six_all ((Below.heap_alloc w2 o _ hlt2).trans HV2.out)
  have y0 := fun o => (HA o).1
  have y1 := fun o => (HA o).2.1
  have y2 := fun o => (HA o).2.2.1
  have y3 := fun o => (HA o).2.2.2.1
  have y4 := fun o => (HA o).2.2.2.2.1
  have y5 := fun o => (HA o).2.2.2.2.2.1
  have q0 := fun o => (HA o).2.2.2.2.2.2.1
  have q1 := fun o => (HA o).2.2.2.2.2.2.2.1
  have q2 := fun o => (HA o).2.2.2.2.2.2.2.2.1
  have q3 := fun o => (HA o).2.2.2.2.2.2.2.2.2.1
  have q4 := fun o => (HA o).2.2.2.2.2.2.2.2.2.2.1
  have q5 := fun o => (HA o).2.2.2.2.2.2.2.2.2.2.2
  clear HA hlt2
  go_wp2
  exact bodyPost_ret (v := .tuple #[.agg #[.bool false, .int .u32 0, .bool false, .string ⟨#[]⟩, .bool false, .int .i64 0], .int .i64 z, .int .i64 20]) (by simp [results, Tryz.results111, go_sem, y0, y1, y2, y3, y4, y5]) rfl ⟨rfl, (((((hb5.out.setCell (Nat.le_refl _) _).setCell (Nat.le_refl _) _).setCell (Nat.le_refl _) _).setCell (Nat.le_refl _) _).setCell (Nat.le_refl _) _).setCell (Nat.le_refl _) _⟩
end Go.Proofs.YthkaekpoicodeaaGreatDoor
/- What readLaid of package code answers, over the program's own text: some of its ways. -/
namespace Go.Proofs.YthkaekpoicodeaaGreatDoor
open Go.RowKit
set_option linter.unusedVariables false in
set_option maxRecDepth 100000 in
set_option maxHeartbeats 4000000 in
theorem rl_less_short (s E : ByteArray) (z : Int) (x : Bool) (n : Nat) (r : Bool) (D : ByteArray) (nn : Nat) (w : World) (hT : Tab w) (hnn : nn ≤ 103)
    (HU : Hid (∀ w, Calls Tryz.prog 115 #[.string s] w fun e w' => e = .returned (.tuple #[.string E, .int .i64 z]) ∧ Below w.heap.size w w'))
    (HP : Hid (∀ w, Tab w → Calls Tryz.prog 116 #[.string E] w fun e w' => e = .returned (.tuple #[.agg #[.bool x, .int .u32 n, .bool r, .string D], .int .i64 nn, .int .i64 10]) ∧ Below w.heap.size w w'))
    (hz : decide (0 ≤ z) = false) :
    Calls Tryz.prog 111 #[.string s] w fun e w' => e = .returned (.tuple #[.agg #[.bool false, .int .u32 0, .bool false, .string ⟨#[]⟩, .bool false, .int .i64 0], .int .i64 (s.size : Int), .int .i64 10]) ∧ Below w.heap.size w w' := by
  have hT1 : Hid (Tab _) := hT.alloc (.cells #[.bool false, .int .u32 0, .bool false, .string ⟨#[]⟩, .bool false, .int .i64 0] 138)
  clear hT
  go_enter Tryz.func111, Tryz.ntmps111
  go_wp2_with fail
  refine (HU.out _).mono ?_
  rintro e w1 ⟨rfl, hb1⟩
  have HV1 : Hid (w1.heap[w.heap.size]? = some (.cells #[.bool false, .int .u32 0, .bool false, .string ⟨#[]⟩, .bool false, .int .i64 0] 138 (0, 0))) := (hb1.block w.heap.size (by simp)).trans (heap_alloc_new _ _)
  have hT2 : Hid (Tab w1) := hT1.out.below hb1
  have hb2 : Hid (Below w.heap.size w w1) := below_join ((Below.refl _ _).alloc (Nat.le_refl _) _) hb1
  clear hb1 hT1 HU
  go_wp2_with fail
  refine (HP.out _ hT2.out).mono ?_
  rintro e w2 ⟨rfl, hb3⟩
  have HV2 : Hid (w2.heap[w.heap.size]? = some (.cells #[.bool false, .int .u32 0, .bool false, .string ⟨#[]⟩, .bool false, .int .i64 0] 138 (0, 0))) := block_on (Array.getElem?_eq_some_iff.1 HV1.out).1 hb3 HV1.out
  have hT3 : Hid (Tab w2) := hT2.out.below hb3
  have hb4 : Hid (Below w.heap.size w w2) := below_join hb2.out hb3
  clear hb3 hb2 hT2 HP HV1
  have hlt2 : w.heap.size < w2.heap.size := (Array.getElem?_eq_some_iff.1 HV2.out).1
  have hb5 : Hid (Below w.heap.size w (w2.alloc (.cells #[.bool x, .int .u32 n, .bool r, .string D] 35))) := hb4.out.alloc hb4.out.size _
  clear hT3 hb4
  have HA := fun o => six_all ((Below.heap_alloc w2 o _ hlt2).trans HV2.out)
  have y0 := fun o => (HA o).1
  have y1 := fun o => (HA o).2.1
  have y2 := fun o => (HA o).2.2.1
  have y3 := fun o => (HA o).2.2.2.1
  have y4 := fun o => (HA o).2.2.2.2.1
  have y5 := fun o => (HA o).2.2.2.2.2.1
  have q0 := fun o => (HA o).2.2.2.2.2.2.1
  have q1 := fun o => (HA o).2.2.2.2.2.2.2.1
  have q2 := fun o => (HA o).2.2.2.2.2.2.2.2.1
  have q3 := fun o => (HA o).2.2.2.2.2.2.2.2.2.1
  have q4 := fun o => (HA o).2.2.2.2.2.2.2.2.2.2.1
  have q5 := fun o => (HA o).2.2.2.2.2.2.2.2.2.2.2
  clear HA hlt2
  go_wp2
  exact bodyPost_ret (v := .tuple #[.agg #[.bool false, .int .u32 0, .bool false, .string ⟨#[]⟩, .bool false, .int .i64 0], .int .i64 (s.size : Int), .int .i64 10]) (by simp [results, Tryz.results111, go_sem, y0, y1, y2, y3, y4, y5]) rfl ⟨rfl, (((((hb5.out.setCell (Nat.le_refl _) _).setCell (Nat.le_refl _) _).setCell (Nat.le_refl _) _).setCell (Nat.le_refl _) _).setCell (Nat.le_refl _) _).setCell (Nat.le_refl _) _⟩
set_option linter.unusedVariables false in
set_option maxRecDepth 100000 in
set_option maxHeartbeats 4000000 in
theorem rl_bad_six (s E : ByteArray) (z : Int) (x : Bool) (n : Nat) (r : Bool) (D : ByteArray) (nn : Nat) (w : World) (hT : Tab w) (hnn : nn ≤ 103)
    (HU : Hid (∀ w, Calls Tryz.prog 115 #[.string s] w fun e w' => e = .returned (.tuple #[.string E, .int .i64 z]) ∧ Below w.heap.size w w'))
    (HP : Hid (∀ w, Tab w → Calls Tryz.prog 116 #[.string E] w fun e w' => e = .returned (.tuple #[.agg #[.bool x, .int .u32 n, .bool r, .string D], .int .i64 nn, .int .i64 0]) ∧ Below w.heap.size w w'))
    (hfit : decide ((nn : Int) + 15 ≤ (E.size : Int)) = true) (pl : Nat) (HO : Hid (∀ w, Calls Tryz.prog 118 #[.string E, .int .i64 ((nn : Int) + 15)] w fun e w' => e = .returned (.int .i64 (pl : Int)) ∧ Below w.heap.size w w')) (hz0 : decide (z < 0) = false) (hz1 : decide ((pl : Int) ≤ z) = false) (hz : decide (0 ≤ z) = true) :
    Calls Tryz.prog 111 #[.string s] w fun e w' => e = .returned (.tuple #[.agg #[.bool false, .int .u32 0, .bool false, .string ⟨#[]⟩, .bool false, .int .i64 0], .int .i64 z, .int .i64 20]) ∧ Below w.heap.size w w' := by
  have hT1 : Hid (Tab _) := hT.alloc (.cells #[.bool false, .int .u32 0, .bool false, .string ⟨#[]⟩, .bool false, .int .i64 0] 138)
  clear hT
  go_enter Tryz.func111, Tryz.ntmps111
  go_wp2_with fail
  refine (HU.out _).mono ?_
  rintro e w1 ⟨rfl, hb1⟩
  have HV1 : Hid (w1.heap[w.heap.size]? = some (.cells #[.bool false, .int .u32 0, .bool false, .string ⟨#[]⟩, .bool false, .int .i64 0] 138 (0, 0))) := (hb1.block w.heap.size (by simp)).trans (heap_alloc_new _ _)
  have hT2 : Hid (Tab w1) := hT1.out.below hb1
  have hb2 : Hid (Below w.heap.size w w1) := below_join ((Below.refl _ _).alloc (Nat.le_refl _) _) hb1
  clear hb1 hT1 HU
  go_wp2_with fail
  refine (HP.out _ hT2.out).mono ?_
  rintro e w2 ⟨rfl, hb3⟩
  have HV2 : Hid (w2.heap[w.heap.size]? = some (.cells #[.bool false, .int .u32 0, .bool false, .string ⟨#[]⟩, .bool false, .int .i64 0] 138 (0, 0))) := block_on (Array.getElem?_eq_some_iff.1 HV1.out).1 hb3 HV1.out
  have hT3 : Hid (Tab w2) := hT2.out.below hb3
  have hb4 : Hid (Below w.heap.size w w2) := below_join hb2.out hb3
  clear hb3 hb2 hT2 HP HV1
  have hlt2 : w.heap.size < w2.heap.size := (Array.getElem?_eq_some_iff.1 HV2.out).1
  have hb5 : Hid (Below w.heap.size w (w2.alloc (.cells #[.bool x, .int .u32 n, .bool r, .string D] 35))) := hb4.out.alloc hb4.out.size _
  go_wp2_with fail
  refine (HO.out _).mono ?_
  rintro e w3 ⟨rfl, hb6⟩
  have HV3 : Hid (w3.heap[w.heap.size]? = some (.cells #[.bool false, .int .u32 0, .bool false, .string ⟨#[]⟩, .bool false, .int .i64 0] 138 (0, 0))) := block_on (by simp; omega) hb6 ((Below.heap_alloc w2 _ _ hlt2).trans HV2.out)
  have hb7 : Hid (Below w.heap.size w w3) := below_join hb5.out hb6
  clear hb4 hb5 hb6 hT3 HV2 HO
  obtain ⟨y0, y1, y2, y3, y4, y5, q0, q1, q2, q3, q4, q5⟩ := six_all HV3.out
  go_wp2
  exact bodyPost_ret (v := .tuple #[.agg #[.bool false, .int .u32 0, .bool false, .string ⟨#[]⟩, .bool false, .int .i64 0], .int .i64 z, .int .i64 20]) (by simp [results, Tryz.results111, go_sem, y0, y1, y2, y3, y4, y5]) rfl ⟨rfl, (((((hb7.out.setCell (Nat.le_refl _) _).setCell (Nat.le_refl _) _).setCell (Nat.le_refl _) _).setCell (Nat.le_refl _) _).setCell (Nat.le_refl _) _).setCell (Nat.le_refl _) _⟩
end Go.Proofs.YthkaekpoicodeaaGreatDoor
/- What readLaid of package code answers, over the program's own text: some of its ways. -/
namespace Go.Proofs.YthkaekpoicodeaaGreatDoor
open Go.RowKit
set_option linter.unusedVariables false in
set_option maxRecDepth 100000 in
set_option maxHeartbeats 4000000 in
theorem rl_bad_short (s E : ByteArray) (z : Int) (x : Bool) (n : Nat) (r : Bool) (D : ByteArray) (nn : Nat) (w : World) (hT : Tab w) (hnn : nn ≤ 103)
    (HU : Hid (∀ w, Calls Tryz.prog 115 #[.string s] w fun e w' => e = .returned (.tuple #[.string E, .int .i64 z]) ∧ Below w.heap.size w w'))
    (HP : Hid (∀ w, Tab w → Calls Tryz.prog 116 #[.string E] w fun e w' => e = .returned (.tuple #[.agg #[.bool x, .int .u32 n, .bool r, .string D], .int .i64 nn, .int .i64 0]) ∧ Below w.heap.size w w'))
    (hfit : decide ((nn : Int) + 15 ≤ (E.size : Int)) = true) (pl : Nat) (HO : Hid (∀ w, Calls Tryz.prog 118 #[.string E, .int .i64 ((nn : Int) + 15)] w fun e w' => e = .returned (.int .i64 (pl : Int)) ∧ Below w.heap.size w w')) (hz0 : decide (z < 0) = true) (hz2 : s.size < pl) (hz1 : decide ((pl : Int) ≤ z) = false) (hz : decide (0 ≤ z) = false) :
    Calls Tryz.prog 111 #[.string s] w fun e w' => e = .returned (.tuple #[.agg #[.bool false, .int .u32 0, .bool false, .string ⟨#[]⟩, .bool false, .int .i64 0], .int .i64 (s.size : Int), .int .i64 10]) ∧ Below w.heap.size w w' := by
  have hT1 : Hid (Tab _) := hT.alloc (.cells #[.bool false, .int .u32 0, .bool false, .string ⟨#[]⟩, .bool false, .int .i64 0] 138)
  clear hT
  go_enter Tryz.func111, Tryz.ntmps111
  go_wp2_with fail
  refine (HU.out _).mono ?_
  rintro e w1 ⟨rfl, hb1⟩
  have HV1 : Hid (w1.heap[w.heap.size]? = some (.cells #[.bool false, .int .u32 0, .bool false, .string ⟨#[]⟩, .bool false, .int .i64 0] 138 (0, 0))) := (hb1.block w.heap.size (by simp)).trans (heap_alloc_new _ _)
  have hT2 : Hid (Tab w1) := hT1.out.below hb1
  have hb2 : Hid (Below w.heap.size w w1) := below_join ((Below.refl _ _).alloc (Nat.le_refl _) _) hb1
  clear hb1 hT1 HU
  go_wp2_with fail
  refine (HP.out _ hT2.out).mono ?_
  rintro e w2 ⟨rfl, hb3⟩
  have HV2 : Hid (w2.heap[w.heap.size]? = some (.cells #[.bool false, .int .u32 0, .bool false, .string ⟨#[]⟩, .bool false, .int .i64 0] 138 (0, 0))) := block_on (Array.getElem?_eq_some_iff.1 HV1.out).1 hb3 HV1.out
  have hT3 : Hid (Tab w2) := hT2.out.below hb3
  have hb4 : Hid (Below w.heap.size w w2) := below_join hb2.out hb3
  clear hb3 hb2 hT2 HP HV1
  have hlt2 : w.heap.size < w2.heap.size := (Array.getElem?_eq_some_iff.1 HV2.out).1
  have hb5 : Hid (Below w.heap.size w (w2.alloc (.cells #[.bool x, .int .u32 n, .bool r, .string D] 35))) := hb4.out.alloc hb4.out.size _
  go_wp2_with fail
  refine (HO.out _).mono ?_
  rintro e w3 ⟨rfl, hb6⟩
  have HV3 : Hid (w3.heap[w.heap.size]? = some (.cells #[.bool false, .int .u32 0, .bool false, .string ⟨#[]⟩, .bool false, .int .i64 0] 138 (0, 0))) := block_on (by simp; omega) hb6 ((Below.heap_alloc w2 _ _ hlt2).trans HV2.out)
  have hb7 : Hid (Below w.heap.size w w3) := below_join hb5.out hb6
  clear hb4 hb5 hb6 hT3 HV2 HO
  obtain ⟨y0, y1, y2, y3, y4, y5, q0, q1, q2, q3, q4, q5⟩ := six_all HV3.out
  go_wp2
  exact bodyPost_ret (v := .tuple #[.agg #[.bool false, .int .u32 0, .bool false, .string ⟨#[]⟩, .bool false, .int .i64 0], .int .i64 (s.size : Int), .int .i64 10]) (by simp [results, Tryz.results111, go_sem, y0, y1, y2, y3, y4, y5]) rfl ⟨rfl, (((((hb7.out.setCell (Nat.le_refl _) _).setCell (Nat.le_refl _) _).setCell (Nat.le_refl _) _).setCell (Nat.le_refl _) _).setCell (Nat.le_refl _) _).setCell (Nat.le_refl _) _⟩
end Go.Proofs.YthkaekpoicodeaaGreatDoor
/- What readLaid of package code answers, over the program's own text: some of its ways. -/
namespace Go.Proofs.YthkaekpoicodeaaGreatDoor
open Go.RowKit
set_option linter.unusedVariables false in
set_option maxRecDepth 100000 in
set_option maxHeartbeats 4000000 in
theorem rl_ok_end (s E : ByteArray) (z : Int) (x : Bool) (n : Nat) (r : Bool) (D : ByteArray) (nn : Nat) (w : World) (hT : Tab w) (hnn : nn ≤ 103)
    (HU : Hid (∀ w, Calls Tryz.prog 115 #[.string s] w fun e w' => e = .returned (.tuple #[.string E, .int .i64 z]) ∧ Below w.heap.size w w'))
    (HP : Hid (∀ w, Tab w → Calls Tryz.prog 116 #[.string E] w fun e w' => e = .returned (.tuple #[.agg #[.bool x, .int .u32 n, .bool r, .string D], .int .i64 nn, .int .i64 0]) ∧ Below w.heap.size w w'))
    (hfit : decide ((nn : Int) + 15 ≤ (E.size : Int)) = true) (pl : Nat) (HO : Hid (∀ w, Calls Tryz.prog 118 #[.string E, .int .i64 ((nn : Int) + 15)] w fun e w' => e = .returned (.int .i64 (pl : Int)) ∧ Below w.heap.size w w')) (cr : Nat) (HC : Hid (∀ w, Calls Tryz.prog 53 #[.string (E.extract 0 (nn + 15))] w fun e w' => e = .returned (.int .u16 (cr : Int)) ∧ w' = w)) (hz0 : decide (z < 0) = true) (hz2 : ¬ s.size < pl) (hz3 : pl ≤ s.size) :
    Calls Tryz.prog 111 #[.string s] w fun e w' => e = .returned (.tuple #[.agg #[.bool x, .int .u32 n, .bool r, .string D, .bool ((cr : Int) == 0), .int .i64 (pl : Int)], .int .i64 0, .int .i64 0]) ∧ Below w.heap.size w w' := by
  have hT1 : Hid (Tab _) := hT.alloc (.cells #[.bool false, .int .u32 0, .bool false, .string ⟨#[]⟩, .bool false, .int .i64 0] 138)
  clear hT
  go_enter Tryz.func111, Tryz.ntmps111
  go_wp2_with fail
  refine (HU.out _).mono ?_
  rintro e w1 ⟨rfl, hb1⟩
  have HV1 : Hid (w1.heap[w.heap.size]? = some (.cells #[.bool false, .int .u32 0, .bool false, .string ⟨#[]⟩, .bool false, .int .i64 0] 138 (0, 0))) := (hb1.block w.heap.size (by simp)).trans (heap_alloc_new _ _)
  have hT2 : Hid (Tab w1) := hT1.out.below hb1
  have hb2 : Hid (Below w.heap.size w w1) := below_join ((Below.refl _ _).alloc (Nat.le_refl _) _) hb1
  clear hb1 hT1 HU
  go_wp2_with fail
  refine (HP.out _ hT2.out).mono ?_
  rintro e w2 ⟨rfl, hb3⟩
  have HV2 : Hid (w2.heap[w.heap.size]? = some (.cells #[.bool false, .int .u32 0, .bool false, .string ⟨#[]⟩, .bool false, .int .i64 0] 138 (0, 0))) := block_on (Array.getElem?_eq_some_iff.1 HV1.out).1 hb3 HV1.out
  have hT3 : Hid (Tab w2) := hT2.out.below hb3
  have hb4 : Hid (Below w.heap.size w w2) := below_join hb2.out hb3
  clear hb3 hb2 hT2 HP HV1
  have hlt2 : w.heap.size < w2.heap.size := (Array.getElem?_eq_some_iff.1 HV2.out).1
  have hb5 : Hid (Below w.heap.size w (w2.alloc (.cells #[.bool x, .int .u32 n, .bool r, .string D] 35))) := hb4.out.alloc hb4.out.size _
  go_wp2_with fail
  refine (HO.out _).mono ?_
  rintro e w3 ⟨rfl, hb6⟩
  have HV3 : Hid (w3.heap[w.heap.size]? = some (.cells #[.bool false, .int .u32 0, .bool false, .string ⟨#[]⟩, .bool false, .int .i64 0] 138 (0, 0))) := block_on (by simp; omega) hb6 ((Below.heap_alloc w2 _ _ hlt2).trans HV2.out)
  have HL3 : Hid (w3.heap[w2.heap.size]? = some (.cells #[.bool x, .int .u32 n, .bool r, .string D] 35 (0, 0))) := block_on (by simp) hb6 (heap_alloc_new _ _)
  have hlt3 : w2.heap.size < w3.heap.size := (Array.getElem?_eq_some_iff.1 HL3.out).1
  obtain ⟨f0, f1, f2, f3, g0, g1, g2, g3⟩ := four_cells HL3.out
  have hb7 : Hid (Below w.heap.size w w3) := below_join hb5.out hb6
  clear hb4 hb5 hb6 hT3 HV2 HO
  obtain ⟨y0, y1, y2, y3, y4, y5, q0, q1, q2, q3, q4, q5⟩ := six_all HV3.out
  go_wp2_with fail
  refine Lw.region_tail 8 (by kernel_rfl) (by kernel_rfl) ?_
  intro w4 hw4
  have hb8 : Hid (Below w.heap.size w w4) := by subst hw4; exact hb7.out.drew
  have HV4 : Hid (w4.heap[w.heap.size]? = some (.cells #[.bool false, .int .u32 0, .bool false, .string ⟨#[]⟩, .bool false, .int .i64 0] 138 (0, 0))) := by subst hw4; exact HV3.out
  have HL4 : Hid (w4.heap[w2.heap.size]? = some (.cells #[.bool x, .int .u32 n, .bool r, .string D] 35 (0, 0))) := by subst hw4; exact HL3.out
  have hlt4 : w2.heap.size < w4.heap.size := (Array.getElem?_eq_some_iff.1 HL4.out).1
  clear hw4 hb7 HV3 HL3 hlt3 y0 y1 y2 y3 y4 y5 q0 q1 q2 q3 q4 q5 f0 f1 f2 f3 g0 g1 g2 g3
  obtain ⟨y0, y1, y2, y3, y4, y5, q0, q1, q2, q3, q4, q5⟩ := six_all HV4.out
  obtain ⟨f0, f1, f2, f3, g0, g1, g2, g3⟩ := four_cells HL4.out
  have hsl : ∀ W, (Instr.slice 9 (.string E) none (some (.int .i64 ((nn : Int) + 15))) none).run Tryz.prog W = .ok (.string (E.extract 0 (nn + 15))) W := fun W => by
    have hf : (nn : Int) + 15 ≤ (E.size : Int) := of_decide_eq_true hfit
    have h := run_slice_string_h (P := Tryz.prog) W 9 E Tryz.underlying9 .i64 ((nn : Int) + 15) (by omega) (by omega)
    rw [show ((nn : Int) + 15).toNat = nn + 15 from by omega] at h
    exact h
  simp only [List.take_succ_cons, List.take_zero, List.drop_succ_cons, List.drop_zero]
  repeat (first | still_step | still_call (HC.out _))
  refine wpStill_nil ?_
  go_wp2
  exact bodyPost_ret (v := .tuple #[.agg #[.bool x, .int .u32 n, .bool r, .string D, .bool ((cr : Int) == 0), .int .i64 (pl : Int)], .int .i64 0, .int .i64 0]) (by simp [results, Tryz.results111, go_sem, y0, y1, y2, y3, y4, y5]) rfl ⟨rfl, (((((hb8.out.setCell (Nat.le_refl _) _).setCell (Nat.le_refl _) _).setCell (Nat.le_refl _) _).setCell (Nat.le_refl _) _).setCell (Nat.le_refl _) _).setCell (Nat.le_refl _) _⟩
end Go.Proofs.YthkaekpoicodeaaGreatDoor
/- What readLaid of package code answers, over the program's own text: some of its ways. -/
namespace Go.Proofs.YthkaekpoicodeaaGreatDoor
open Go.RowKit
set_option linter.unusedVariables false in
set_option maxRecDepth 100000 in
set_option maxHeartbeats 4000000 in
theorem rl_ok_six (s E : ByteArray) (z : Int) (x : Bool) (n : Nat) (r : Bool) (D : ByteArray) (nn : Nat) (w : World) (hT : Tab w) (hnn : nn ≤ 103)
    (HU : Hid (∀ w, Calls Tryz.prog 115 #[.string s] w fun e w' => e = .returned (.tuple #[.string E, .int .i64 z]) ∧ Below w.heap.size w w'))
    (HP : Hid (∀ w, Tab w → Calls Tryz.prog 116 #[.string E] w fun e w' => e = .returned (.tuple #[.agg #[.bool x, .int .u32 n, .bool r, .string D], .int .i64 nn, .int .i64 0]) ∧ Below w.heap.size w w'))
    (hfit : decide ((nn : Int) + 15 ≤ (E.size : Int)) = true) (pl : Nat) (HO : Hid (∀ w, Calls Tryz.prog 118 #[.string E, .int .i64 ((nn : Int) + 15)] w fun e w' => e = .returned (.int .i64 (pl : Int)) ∧ Below w.heap.size w w')) (cr : Nat) (HC : Hid (∀ w, Calls Tryz.prog 53 #[.string (E.extract 0 (nn + 15))] w fun e w' => e = .returned (.int .u16 (cr : Int)) ∧ w' = w)) (hz0 : decide (z < 0) = false) (hz1 : decide ((pl : Int) ≤ z) = true) :
    Calls Tryz.prog 111 #[.string s] w fun e w' => e = .returned (.tuple #[.agg #[.bool x, .int .u32 n, .bool r, .string D, .bool ((cr : Int) == 0), .int .i64 (pl : Int)], .int .i64 0, .int .i64 0]) ∧ Below w.heap.size w w' := by
  have hT1 : Hid (Tab _) := hT.alloc (.cells #[.bool false, .int .u32 0, .bool false, .string ⟨#[]⟩, .bool false, .int .i64 0] 138)
  clear hT
  go_enter Tryz.func111, Tryz.ntmps111
  go_wp2_with fail
  refine (HU.out _).mono ?_
  rintro e w1 ⟨rfl, hb1⟩
  have HV1 : Hid (w1.heap[w.heap.size]? = some (.cells #[.bool false, .int .u32 0, .bool false, .string ⟨#[]⟩, .bool false, .int .i64 0] 138 (0, 0))) := (hb1.block w.heap.size (by simp)).trans (heap_alloc_new _ _)
  have hT2 : Hid (Tab w1) := hT1.out.below hb1
  have hb2 : Hid (Below w.heap.size w w1) := below_join ((Below.refl _ _).alloc (Nat.le_refl _) _) hb1
  clear hb1 hT1 HU
  go_wp2_with fail
  refine (HP.out _ hT2.out).mono ?_
  rintro e w2 ⟨rfl, hb3⟩
  have HV2 : Hid (w2.heap[w.heap.size]? = some (.cells #[.bool false, .int .u32 0, .bool false, .string ⟨#[]⟩, .bool false, .int .i64 0] 138 (0, 0))) := block_on (Array.getElem?_eq_some_iff.1 HV1.out).1 hb3 HV1.out
  have hT3 : Hid (Tab w2) := hT2.out.below hb3
  have hb4 : Hid (Below w.heap.size w w2) := below_join hb2.out hb3
  clear hb3 hb2 hT2 HP HV1
  have hlt2 : w.heap.size < w2.heap.size := (Array.getElem?_eq_some_iff.1 HV2.out).1
  have hb5 : Hid (Below w.heap.size w (w2.alloc (.cells #[.bool x, .int .u32 n, .bool r, .string D] 35))) := hb4.out.alloc hb4.out.size _
  go_wp2_with fail
  refine (HO.out _).mono ?_
  rintro e w3 ⟨rfl, hb6⟩
  have HV3 : Hid (w3.heap[w.heap.size]? = some (.cells #[.bool false, .int .u32 0, .bool false, .string ⟨#[]⟩, .bool false, .int .i64 0] 138 (0, 0))) := block_on (by simp; omega) hb6 ((Below.heap_alloc w2 _ _ hlt2).trans HV2.out)
  have HL3 : Hid (w3.heap[w2.heap.size]? = some (.cells #[.bool x, .int .u32 n, .bool r, .string D] 35 (0, 0))) := block_on (by simp) hb6 (heap_alloc_new _ _)
  have hlt3 : w2.heap.size < w3.heap.size := (Array.getElem?_eq_some_iff.1 HL3.out).1
  obtain ⟨f0, f1, f2, f3, g0, g1, g2, g3⟩ := four_cells HL3.out
  have hb7 : Hid (Below w.heap.size w w3) := below_join hb5.out hb6
  clear hb4 hb5 hb6 hT3 HV2 HO
  obtain ⟨y0, y1, y2, y3, y4, y5, q0, q1, q2, q3, q4, q5⟩ := six_all HV3.out
  go_wp2_with fail
  refine Lw.region_tail 8 (by kernel_rfl) (by kernel_rfl) ?_
  intro w4 hw4
  have hb8 : Hid (Below w.heap.size w w4) := by subst hw4; exact hb7.out.drew
  have HV4 : Hid (w4.heap[w.heap.size]? = some (.cells #[.bool false, .int .u32 0, .bool false, .string ⟨#[]⟩, .bool false, .int .i64 0] 138 (0, 0))) := by subst hw4; exact HV3.out
  have HL4 : Hid (w4.heap[w2.heap.size]? = some (.cells #[.bool x, .int .u32 n, .bool r, .string D] 35 (0, 0))) := by subst hw4; exact HL3.out
  have hlt4 : w2.heap.size < w4.heap.size := (Array.getElem?_eq_some_iff.1 HL4.out).1
  clear hw4 hb7 HV3 HL3 hlt3 y0 y1 y2 y3 y4 y5 q0 q1 q2 q3 q4 q5 f0 f1 f2 f3 g0 g1 g2 g3
  obtain ⟨y0, y1, y2, y3, y4, y5, q0, q1, q2, q3, q4, q5⟩ := six_all HV4.out
  obtain ⟨f0, f1, f2, f3, g0, g1, g2, g3⟩ := four_cells HL4.out
  have hsl : ∀ W, (Instr.slice 9 (.string E) none (some (.int .i64 ((nn : Int) + 15))) none).run Tryz.prog W = .ok (.string (E.extract 0 (nn + 15))) W := fun W => by
    have hf : (nn : Int) + 15 ≤ (E.size : Int) := of_decide_eq_true hfit
    have h := run_slice_string_h (P := Tryz.prog) W 9 E Tryz.underlying9 .i64 ((nn : Int) + 15) (by omega) (by omega)
    rw [show ((nn : Int) + 15).toNat = nn + 15 from by omega] at h
    exact h
  simp only [List.take_succ_cons, List.take_zero, List.drop_succ_cons, List.drop_zero]
  repeat (first | still_step | still_call (HC.out _))
  refine wpStill_nil ?_
  go_wp2
  exact bodyPost_ret (v := .tuple #[.agg #[.bool x, .int .u32 n, .bool r, .string D, .bool ((cr : Int) == 0), .int .i64 (pl : Int)], .int .i64 0, .int .i64 0]) (by simp [results, Tryz.results111, go_sem, y0, y1, y2, y3, y4, y5]) rfl ⟨rfl, (((((hb8.out.setCell (Nat.le_refl _) _).setCell (Nat.le_refl _) _).setCell (Nat.le_refl _) _).setCell (Nat.le_refl _) _).setCell (Nat.le_refl _) _).setCell (Nat.le_refl _) _⟩
end Go.Proofs.YthkaekpoicodeaaGreatDoor
/- What readLaid of package code answers, over the program's own text. -/
namespace Go.Proofs.YthkaekpoicodeaaGreatDoor
open Go.RowKit
theorem cast_beq0 (n : Nat) : ((n : Int) == 0) = (n == 0) := by
  cases h : (n == 0)
  · rw [beq_eq_false_iff_ne] at h ⊢; omega
  · rw [beq_iff_eq] at h ⊢; omega
theorem readLaid_any (s : ByteArray) (hs : s.size ≤ 1000000) (w : World) (hT : Tab w) :
    Calls Tryz.prog 111 #[.string s] w fun e w' => e = .returned (lpv (Cm.rlaid (Bm.read s.data.toList))) ∧ Below w.heap.size w w' := by
  have hlen : (Bm.read s.data.toList).length = s.size := by rw [Bm.length_read]; simp
  have HU : Hid (∀ w, Calls Tryz.prog 115 #[.string s] w fun e w' => e = .returned (.tuple #[.string ⟨(Bm.row (Sm.unstuff (Bm.read s.data.toList)).1).toArray⟩, .int .i64 (Sm.unstuff (Bm.read s.data.toList)).2]) ∧ Below w.heap.size w w') := fun w => unstuff_any s w (by omega)
  have hul := Sm.unstuff_len (Bm.read s.data.toList)
  have hur := unB_range (Bm.read s.data.toList) (0, false) [] 0
  rw [hlen] at hul hur
  have hur2 : -1 ≤ (Sm.unstuff (Bm.read s.data.toList)).2 ∧ (Sm.unstuff (Bm.read s.data.toList)).2 < ((0 : Nat) : Int) + s.size := hur
  clear hur
  rcases hu : Sm.unstuff (Bm.read s.data.toList) with ⟨U, z⟩
  rw [hu] at HU hul hur2
  simp only at HU hul hur2
  obtain ⟨hz1, hz2⟩ := hur2
  have HE := fun f nn e => rlaid_eq (Bm.read s.data.toList) U z f nn e hu
  rw [hlen] at HE
  clear hu
  generalize Cm.rlaid (Bm.read s.data.toList) = res at *
  have hrd : Bm.read (ByteArray.mk (Bm.row U).toArray).data.toList = U := row_data U
  have hsz : (ByteArray.mk (Bm.row U).toArray).size = U.length := row_size U
  have HP : Hid (∀ w, Tab w → Calls Tryz.prog 116 #[.string (ByteArray.mk (Bm.row U).toArray)] w fun e w' => e = .returned (pfv (Fm.parse U)) ∧ Below w.heap.size w w') := fun w hT => by
    have h := fParse_any (ByteArray.mk (Bm.row U).toArray) w hT (by omega)
    rw [hrd] at h
    exact h
  have HF : Hid (∀ w, Tab w → Calls Tryz.prog 117 #[.string (ByteArray.mk (Bm.row U).toArray)] w fun e w' => e = .returned (.int .i64 (Cm.fbreak U : Int)) ∧ Below w.heap.size w w') := fun w hT => by
    have h := formBreak_any (ByteArray.mk (Bm.row U).toArray) (by omega) w hT
    rw [hrd] at h
    exact h
  have HO : Hid (∀ k w, k ≤ U.length → Calls Tryz.prog 118 #[.string (ByteArray.mk (Bm.row U).toArray), .int .i64 (k : Int)] w fun e w' => e = .returned (.int .i64 (Cm.place U k : Int)) ∧ Below w.heap.size w w') := fun k w hk => by
    have h := placeOf_any (ByteArray.mk (Bm.row U).toArray) k (by omega) (by omega) w _ rfl
    rw [hrd] at h
    exact h
  have HC : Hid (∀ k w, Calls Tryz.prog 53 #[.string ((ByteArray.mk (Bm.row U).toArray).extract 0 k)] w fun e w' => e = .returned (.int .u16 (Bm.crc (U.take k))) ∧ w' = w) := fun k w => by
    have h := crc_any ((ByteArray.mk (Bm.row U).toArray).extract 0 k) w (by unfold maxLen; simp; omega)
    rw [read_front, hrd] at h
    exact h
  have hpc := Cm.parse_code U
  have hpl := Cm.parse_long U
  have hpn := Cm.parse_none U
  rcases hp : Fm.parse U with ⟨⟨x, n, r, d⟩, nn, e0⟩
  have HR : Hid (_) := HE _ _ _ hp
  rw [hp] at HP hpc hpl hpn
  unfold pfv at HP
  simp only at HP hpc hpl hpn
  rw [← hsz] at HR hul HO hpl
  clear hp hrd HE hsz
  generalize ByteArray.mk (Bm.row U).toArray = E at *
  have hnn : nn ≤ 103 := by
    rcases hpc with h | h | h
    · exact (hpl h).1
    · have := hpn (by omega); unfold Fm.none_ at this; simp only [Prod.mk.injEq] at this; omega
    · have := hpn (by omega); unfold Fm.none_ at this; simp only [Prod.mk.injEq] at this; omega
  clear hpl hpn
  by_cases c12 : e0 = 12
  · subst c12
    rw [if_pos rfl] at HR
    rw [HR.out]
    exact rl_form s E z x n r ⟨d.toArray⟩ nn w hT hnn HU HP (Cm.fbreak U) HF
  rw [if_neg c12] at HR
  by_cases c0 : e0 = 0
  · subst c0
    by_cases hfit : nn + 15 ≤ E.size
    · have hfit' : decide ((nn : Int) + 15 ≤ (E.size : Int)) = true := decide_eq_true (by omega)
      have HOk : Hid (∀ w, Calls Tryz.prog 118 #[.string E, .int .i64 ((nn : Int) + 15)] w fun e w' => e = .returned (.int .i64 (Cm.place U (nn + 15) : Int)) ∧ Below w.heap.size w w') := fun w => by
        have h := HO.out (nn + 15) w hfit
        rw [show ((nn + 15 : Nat) : Int) = (nn : Int) + 15 from by omega] at h
        exact h
      have HCk : Hid (∀ w, Calls Tryz.prog 53 #[.string (E.extract 0 (nn + 15))] w fun e w' => e = .returned (.int .u16 (Bm.crc (U.take (nn + 15)) : Int)) ∧ w' = w) := HC.out (nn + 15)
      by_cases cz : (z < 0 ∧ Cm.place U (nn + 15) ≤ s.size) ∨ (Cm.place U (nn + 15) : Int) ≤ z
      · rw [if_pos ⟨rfl, hfit, cz⟩] at HR
        rw [HR.out]
        by_cases hz : z < 0
        · have hle : Cm.place U (nn + 15) ≤ s.size := by
            rcases cz with h | h
            · exact h.2
            · omega
          exact calls_eq (by unfold lpv; simp only; rw [cast_beq0]; rfl) (rl_ok_end s E z x n r ⟨d.toArray⟩ nn w hT hnn HU HP hfit' _ HOk _ HCk (decide_eq_true hz) (by omega) hle)
        · have hle : (Cm.place U (nn + 15) : Int) ≤ z := by
            rcases cz with h | h
            · exact absurd h.1 hz
            · exact h
          exact calls_eq (by unfold lpv; simp only; rw [cast_beq0]; rfl) (rl_ok_six s E z x n r ⟨d.toArray⟩ nn w hT hnn HU HP hfit' _ HOk _ HCk (decide_eq_false hz) (decide_eq_true hle))
      · rw [if_neg (fun h => cz h.2.2)] at HR
        by_cases hz : 0 ≤ z
        · rw [if_pos hz] at HR
          rw [HR.out]
          have hzt : ((z.toNat : Nat) : Int) = z := Int.toNat_of_nonneg hz
          exact calls_eq (by unfold lpv; simp only; rw [hzt]; rfl) (rl_bad_six s E z x n r ⟨d.toArray⟩ nn w hT hnn HU HP hfit' _ HOk (decide_eq_false (by omega)) (decide_eq_false (fun h => cz (Or.inr h))) (decide_eq_true hz))
        · rw [if_neg hz] at HR
          rw [HR.out]
          exact rl_bad_short s E z x n r ⟨d.toArray⟩ nn w hT hnn HU HP hfit' _ HOk (decide_eq_true (by omega)) (Nat.lt_of_not_le fun h => cz (Or.inl ⟨by omega, h⟩)) (decide_eq_false (fun h => cz (Or.inr h))) (decide_eq_false hz)
    · have hfit' : decide ((nn : Int) + 15 ≤ (E.size : Int)) = false := decide_eq_false (by omega)
      rw [if_neg (fun h => hfit h.2.1)] at HR
      by_cases hz : 0 ≤ z
      · rw [if_pos hz] at HR
        rw [HR.out]
        have hzt : ((z.toNat : Nat) : Int) = z := Int.toNat_of_nonneg hz
        exact calls_eq (by unfold lpv; simp only; rw [hzt]; rfl) (rl_unfit_six s E z x n r ⟨d.toArray⟩ nn w hT hnn HU HP hfit' (decide_eq_true hz))
      · rw [if_neg hz] at HR
        rw [HR.out]
        exact rl_unfit_short s E z x n r ⟨d.toArray⟩ nn w hT hnn HU HP hfit' (decide_eq_false hz)
  · obtain rfl : e0 = 10 := by omega
    rw [if_neg (fun h => c0 h.1)] at HR
    by_cases hz : 0 ≤ z
    · rw [if_pos hz] at HR
      rw [HR.out]
      have hzt : ((z.toNat : Nat) : Int) = z := Int.toNat_of_nonneg hz
      exact calls_eq (by unfold lpv; simp only; rw [hzt]; rfl) (rl_less_six s E z x n r ⟨d.toArray⟩ nn w hT hnn HU HP (decide_eq_true hz))
    · rw [if_neg hz] at HR
      rw [HR.out]
      exact rl_less_short s E z x n r ⟨d.toArray⟩ nn w hT hnn HU HP (decide_eq_false hz)
end Go.Proofs.YthkaekpoicodeaaGreatDoor
