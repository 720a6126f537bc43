/- Package mac, over the landed code: loses, send. -/
import Derived.Test.YtoohmpkhljfpbaaDoorE3
import Derived.Test.YtoohmpkhljfpbaaDoorU6
import Derived.Test.YtoohmpkhljfpbaaDoorU7
namespace Go.Proofs.YtoohmpkhljfpbaaDoor
open Go.RowKit
set_option linter.unusedVariables false
set_option maxRecDepth 100000 in
set_option maxHeartbeats 2000000 in
theorem lloses1 (w : World) (p : Nat) : Calls Tryd.prog 49 #[bptr p, .string ⟨#[49]⟩] w fun e w' => e = .returned (.bool false) ∧ Below w.heap.size w w' := by
  go_enter Tryd.func49, Tryd.ntmps49
  go_wp2_with fail
  refine Lw.wp_region_quiet_below (by kernel_rfl) (by kernel_rfl) ?_
  repeat (first
    | go_big_quiet_skip
    | (go_big_quiet_want; go_big_quiet_op; go_big_quiet_on)
    | (go_big_quiet_want; go_big_quiet_op; apply Exists.intro; refine ⟨fun _ hb' => ?_, ?_⟩; (first
      | exact Lw.val_rfl _); go_big_quiet_on))
  refine wpQuiet_nil ?_
  intro w2 hb2
  go_wp2
  go_ret
  exact ⟨rfl, hb2⟩
set_option maxRecDepth 100000 in
set_option maxHeartbeats 2000000 in
theorem lloses2 (w : World) (p : Nat) (hN : ∀ w', Below w.heap.size w w' → Calls Tryd.prog 46 #[bptr p] w' fun e w'' => e = .returned (.int .u8 48) ∧ Below w'.heap.size w' w'') :
    Calls Tryd.prog 49 #[bptr p, .string ⟨#[48]⟩] w fun e w' => e = .returned (.bool false) ∧ Below w.heap.size w w' := by
  have HN : Hid (∀ w', Below w.heap.size w w' → Calls Tryd.prog 46 #[bptr p] w' fun e w'' => e = .returned (.int .u8 48) ∧ Below w'.heap.size w' w'') := hN
  clear hN
  go_enter Tryd.func49, Tryd.ntmps49
  go_wp2_with fail
  refine Lw.wp_region_quiet_below (by kernel_rfl) (by kernel_rfl) ?_
  repeat (first
    | go_big_quiet_skip
    | (go_big_quiet_want; go_big_quiet_op; go_big_quiet_on)
    | (go_big_quiet_want; go_big_quiet_op; apply Exists.intro; refine ⟨fun _ hb' => ?_, ?_⟩; (first
      | exact Lw.val_rfl _
      | (go_at_call 46; exact Lw.calls_below hb' (HN.out _ hb'))); go_big_quiet_on))
  refine wpQuiet_nil ?_
  intro w2 hb2
  go_wp2
  go_ret
  exact ⟨rfl, hb2⟩
set_option maxRecDepth 100000 in
set_option maxHeartbeats 4000000 in
theorem lloses3 (w : World) (p : Nat) (k l : Int) (row : ByteArray) (x : Bool) (n : Nat) (r : Bool) (d wire : ByteArray) (s g : Int) (hn : n < 4294967296) (hf : Fm.isF x n r d.data.toList = true) (hr : row.size ≤ 1000) (hT : Tab w) (b : Bool) (hb : decide (row.size < (Sm.stuff (Fm.arb0 x n r)).length) = b)
    (hN : ∀ w', Below w.heap.size w w' → Calls Tryd.prog 46 #[bptr p] w' fun e w'' => e = .returned (.int .u8 49) ∧ Below w'.heap.size w' w'') (h : LRow w p (lcs k l row x n r d wire s g)) :
    Calls Tryd.prog 49 #[bptr p, .string ⟨#[48]⟩] w fun e w' => e = .returned (.bool b) ∧ Below w.heap.size w w' := by
  have HN : Hid (∀ w', Below w.heap.size w w' → Calls Tryd.prog 46 #[bptr p] w' fun e w'' => e = .returned (.int .u8 49) ∧ Below w'.heap.size w' w'') := hN
  have HT : Hid (Tab w) := hT
  have harb : Fm.arb x n r d.data.toList = Fm.arb0 x n r := by unfold Fm.arb; rw [if_pos hf]
  have HA : Hid (∀ w, Tab w → Calls Tryd.prog 67 #[.agg #[.bool x, .int .u32 n, .bool r, .string d]] w fun e w' => e = .returned (.string ⟨(Bm.row (Fm.arb0 x n r)).toArray⟩) ∧ Below w.heap.size w w') := fun w hT => by
    have h := fArb_any x n r d w hT hn
    rw [harb] at h
    exact h
  have HS : Hid (∀ w, Calls Tryd.prog 42 #[.string ⟨(Bm.row (Fm.arb0 x n r)).toArray⟩] w fun e w' => e = .returned (.string ⟨(Bm.row (Sm.stuff (Fm.arb0 x n r))).toArray⟩) ∧ Below w.heap.size w w') := fun w => by
    have h := stuff_any ⟨(Bm.row (Fm.arb0 x n r)).toArray⟩ w (by rw [row_size]; rw [Fm.length_arb0]; split <;> omega)
    rw [row_data] at h
    exact h
  have hz : (ByteArray.mk (Bm.row (Sm.stuff (Fm.arb0 x n r))).toArray).size = (Sm.stuff (Fm.arb0 x n r)).length := row_size _
  rw [← hz] at hb
  have hzl : (ByteArray.mk (Bm.row (Sm.stuff (Fm.arb0 x n r))).toArray).size ≤ 1000 := by
    rw [hz]
    have h1 := Mm.arb_le (x, n, r, d.data.toList)
    have h2 := Mm.out_len (f := (x, n, r, d.data.toList)) hf
    have h3 : Mm.arbL (x, n, r, d.data.toList) = (Sm.stuff (Fm.arb0 x n r)).length := rfl
    omega
  have HC : Hid (∀ w', Below w.heap.size w w' → w'.cell? ⟨p, 2, none⟩ = some (.string row) ∧ w'.cell? ⟨p, 3, none⟩ = some (.bool x) ∧ w'.cell? ⟨p, 4, none⟩ = some (.int .u32 (n : Int)) ∧ w'.cell? ⟨p, 5, none⟩ = some (.bool r) ∧ w'.cell? ⟨p, 6, none⟩ = some (.string d)) := fun w' hb => ⟨(h.on hb).c 2 _ rfl, (h.on hb).c 3 _ rfl, (h.on hb).c 4 _ rfl, (h.on hb).c 5 _ rfl, (h.on hb).c 6 _ rfl⟩
  clear hN hT harb h hz hf hn
  generalize ByteArray.mk (Bm.row (Sm.stuff (Fm.arb0 x n r))).toArray = T at *
  generalize ByteArray.mk (Bm.row (Fm.arb0 x n r)).toArray = A at *
  go_enter Tryd.func49, Tryd.ntmps49
  go_wp2_with fail
  refine Lw.wp_region_quiet_below (by kernel_rfl) (by kernel_rfl) ?_
  repeat (first
    | go_big_quiet_skip
    | (go_big_quiet_want; go_big_quiet_op; go_big_quiet_on)
    | (go_big_quiet_want; go_big_quiet_op; apply Exists.intro; refine ⟨fun _ hb' => ?_, ?_⟩; (first
      | exact Lw.val_rfl _
      | (go_at_call 46; exact Lw.calls_below hb' (HN.out _ hb'))
      | (go_at_call 67; exact Lw.calls_below hb' (HA.out _ (HT.out.below hb')))
      | (go_at_call 42; exact Lw.calls_below hb' (HS.out _))
      | (simp [go_sem, (HC.out _ hb').1]; rfl)
      | (simp [go_sem, (HC.out _ hb').2.1, (HC.out _ hb').2.2.1, (HC.out _ hb').2.2.2.1, (HC.out _ hb').2.2.2.2]; rfl)); go_big_quiet_on))
  refine wpQuiet_nil ?_
  intro w2 hb2
  go_wp2
  go_ret
  exact ⟨ret_b (by rw [← hb]), hb2⟩
end Go.Proofs.YtoohmpkhljfpbaaDoor
