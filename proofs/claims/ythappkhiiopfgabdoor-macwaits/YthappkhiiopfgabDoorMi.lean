/- Law 7's 'idle': a node that has seen four ones. -/
import Derived.Test.YthappkhiiopfgabDoorMk
namespace Go.Proofs.YthappkhiiopfgabDoor
open Go.RowKit
set_option linter.unusedVariables false
variable {At : World → Nat → (Nat → Prop) → Mm.St → Prop}
theorem cnt_field1 (a b : Int) (W : World) : (Instr.field 40 (.agg #[.int .i64 a, .int .i64 b]) 1).run Tryd.prog W = .ok (.int .i64 b) W := by
  simp [Instr.field, go_sem, asAgg]
theorem cnt_field0 (a b : Int) (W : World) : (Instr.field 40 (.agg #[.int .i64 a, .int .i64 b]) 0).run Tryd.prog W = .ok (.int .i64 a) W := by
  simp [Instr.field, go_sem, asAgg]
/-- A new node behind k ones. -/
def Mm.newS (k : Nat) : Mm.St := if 3 ≤ k then Mm.idS false Cm.noF [] false 0 0 else Mm.pz (3 - k) false Cm.noF [] false 0 0
theorem Mm.newS_one (k : Nat) : Mm.sample (Mm.newS k) true = (Mm.newS (k + 1), []) := by
  unfold Mm.newS
  by_cases h : 3 ≤ k
  · rw [if_pos h, if_pos (by omega)]; rfl
  · obtain rfl | rfl | rfl : k = 0 ∨ k = 1 ∨ k = 2 := by omega
    all_goals rfl
theorem Mm.newS_zero : Mm.newS 0 = Mm.fresh := rfl
theorem Mm.newS_idle {k : Nat} (h : 3 ≤ k) : Mm.newS k = Mm.idS false Cm.noF [] false 0 0 := by unfold Mm.newS; rw [if_pos h]
set_option maxRecDepth 100000 in
set_option maxHeartbeats 4000000 in
theorem idle_any (S : MacSpec At) {W : World} {P : Nat → Prop} {w : World} (c0 : Ctx W P w) : Calls Tryd.prog 15 #[] w fun e w' => ∃ p, e = .returned (bptr p) ∧ OwnM At P w' p (Mm.idS false Cm.noF [] false 0 0) ∧ Ctx W P w' ∧ Kept P w w' := by
  have hC : Hid (Ctx W P w) := c0
  clear c0
  go_enter Tryd.func15, Tryd.ntmps15
  go_wp2_with fail
  refine (am_new S hC.out).mono ?_
  rintro e w0 ⟨p, rfl, O', C', hk'⟩
  replace hC : Hid (Ctx W _ w0) := C'
  have OM : Hid (OwnM At _ w0 _ _) := O'
  have HK : Hid (Kept P w w0) := hk'
  clear O' C' hk'
  go_wp2_with fail
  go_loopw [2] (fun i wr => ∃ k : Nat, k ≤ 4 ∧ i = .int .i64 k ∧ Hid (OwnM At P wr p (Mm.newS k)) ∧ Hid (Ctx W P wr) ∧ Hid (Kept P w wr)) (fun i _ => 4 - (intOf i).toNat)
  case atStart => exact ⟨0, by decide, rfl, OM, hC, HK⟩
  case round =>
    clear OM hC HK
    obtain ⟨k, hk, rfl, OM, hC, HK⟩ := hrel
    by_cases hlt : k < 4
    · go_wp2_with fail
      refine (am_quiet S 49 (Mm.newS_one k) OM.out hC.out).mono ?_
      rintro e w' ⟨sl, cp, rfl, O', C', hk'⟩
      replace hC : Hid (Ctx W P w') := C'
      replace OM : Hid (OwnM At P w' _ _) := O'
      replace HK : Hid (Kept P w w') := HK.out.trans hk' (fun g h => Or.inl h)
      clear O' C' hk'
      go_wp2
      go_roundw
      case rel => exact ⟨k + 1, by omega, by go_num, OM, hC, HK⟩
      case measure => simp [intOf]; omega
    · obtain rfl : k = 4 := by omega
      go_wp2
      go_ret
      exact ⟨p, rfl, OM.out, hC.out, HK.out⟩
end Go.Proofs.YthappkhiiopfgabDoor
