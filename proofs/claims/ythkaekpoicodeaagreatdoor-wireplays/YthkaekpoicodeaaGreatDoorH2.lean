/- Law 8's own 'known', over whatever wire fits. -/
import Derived.Test.YthkaekpoicodeaaGreatDoorH1
import Derived.Test.YthkaekpoicodeaaGreatDoorUi
namespace Go.Proofs.YthkaekpoicodeaaGreatDoor
open Go.RowKit
set_option linter.unusedVariables false
variable {At : Ob.A Mm.Wi}
def k8 : Cm.Fr := (false, 7, false, [])
theorem k8_is : Mm.isFr k8 = true := by decide
theorem k8_len : 44 ≤ Mm.oL k8 ∧ Mm.oL k8 ≤ 60 := by
  have h := Cm.enc_len (x := false) (n := 7) (r := false) (d := []) (by decide)
  have e : Mm.oL k8 = (Cm.enc0 false 7 false []).length := rfl
  rw [e]
  simp at h
  omega
set_option maxRecDepth 100000 in
set_option maxHeartbeats 4000000 in
theorem known8_any (S : WireSpec At) (W : World) (hT : Tab W) : Calls Tryz.prog 4 #[] W fun e w' => e = .returned (.bool true) ∧ Below W.heap.size W w' := by
  have hC : Hid (Ctx W (fun g => W.heap.size ≤ g) W) := Ctx.start hT
  clear hT
  go_enter Tryz.func4, Tryz.ntmps4
  go_wp2_with fail
  refine (ow_new S 2 (by decide) hC.out).mono ?_
  rintro e w0 ⟨p, qs, qb, rfl, O', C', hk'⟩
  replace hC : Hid (Ctx W _ w0) := C'
  have OB : Hid (OwnW At _ w0 p (Mm.wnew 2 qs qb)) := O'
  clear O' C' hk'
  have hb : Below w0.heap.size w0 (w0.alloc (.cells #[.bool false, .int .u32 7, .bool false, .string ⟨#[]⟩] 35)) := (Below.refl _ _).alloc (Nat.le_refl _) _
  have LF : Hid (Lies (w0.alloc (.cells #[.bool false, .int .u32 7, .bool false, .string ⟨#[]⟩] 35)) w0.heap.size false 7 false ⟨#[]⟩) := Lies.new w0 false 7 false ⟨#[]⟩
  replace OB : Hid (OwnW At _ _ p (Mm.wnew 2 qs qb)) := (OB.out.avoid S w0.heap.size (Nat.le_refl _)).on S hb
  replace hC : Hid (Ctx W (fun g => W.heap.size ≤ g ∧ g ≠ w0.heap.size) _) := (hC.out.more hb).avoid w0.heap.size (by simp)
  have LFP : Hid (¬ (fun g => W.heap.size ≤ g ∧ g ≠ w0.heap.size) w0.heap.size) := fun h => h.2 rfl
  clear hb
  obtain ⟨W1, a1, h1, q1, q2⟩ := Mm.one_start k8_is 2 0 (by decide) qs qb
  have a2 : Mm.wask W1 5 k8 = (141, W1) := by
    unfold Mm.wask
    rw [if_neg (by rw [h1.1, Mm.pl_len]; decide)]
  have hl : W1.ms.length = 2 := by rw [h1.1, Mm.pl_len]
  have H1 : Hid (Mm.One k8 2 0 0 W1) := h1
  go_wp2_with fail
  refine (ow_len S (n := 2) rfl OB.out).mono ?_
  rintro e w' ⟨rfl, hb'⟩
  replace OB : Hid (OwnW At _ w' _ _) := OB.out.on S hb'
  replace hC : Hid (Ctx W _ w') := hC.out.more hb'
  replace LF : Hid (Lies w' _ _ _ _ _) := LF.out.on hb'
  clear hb'
  try clear LF0 LF1 LF2 LF3
  have LF0 := LF.out.c0
  have LF1 := LF.out.c1
  have LF2 := LF.out.c2
  have LF3 := LF.out.c3
  go_wp2_with fail
  refine (ow_ask S 0 k8 a1 (by decide) (by decide) (by decide) OB.out hC.out).mono ?_
  rintro e w' ⟨rfl, O', C', hk'⟩
  replace hC : Hid (Ctx W _ w') := C'
  replace OB : Hid (OwnW At _ w' _ _) := O'
  replace LF : Hid (Lies w' _ _ _ _ _) := (LF.out.kept hk' LFP.out)
  try clear LF0 LF1 LF2 LF3
  have LF0 := LF.out.c0
  have LF1 := LF.out.c1
  have LF2 := LF.out.c2
  have LF3 := LF.out.c3
  clear O' C' hk'
  go_wp2_with fail
  refine (ow_ask S 5 k8 a2 (by decide) (by decide) (by decide) OB.out hC.out).mono ?_
  rintro e w' ⟨rfl, O', C', hk'⟩
  replace hC : Hid (Ctx W _ w') := C'
  replace OB : Hid (OwnW At _ w' _ _) := O'
  replace LF : Hid (Lies w' _ _ _ _ _) := (LF.out.kept hk' LFP.out)
  try clear LF0 LF1 LF2 LF3
  have LF0 := LF.out.c0
  have LF1 := LF.out.c1
  have LF2 := LF.out.c2
  have LF3 := LF.out.c3
  clear O' C' hk'
  go_wp2_with fail
  refine (ow_macNil S 9 (by decide) (by rw [hl]; decide) OB.out).mono ?_
  rintro e w' ⟨rfl, hb'⟩
  replace OB : Hid (OwnW At _ w' _ _) := OB.out.on S hb'
  replace hC : Hid (Ctx W _ w') := hC.out.more hb'
  replace LF : Hid (Lies w' _ _ _ _ _) := LF.out.on hb'
  clear hb'
  try clear LF0 LF1 LF2 LF3
  have LF0 := LF.out.c0
  have LF1 := LF.out.c1
  have LF2 := LF.out.c2
  have LF3 := LF.out.c3
  clear a1 a2 h1 q1 q2 hl
  go_wp2_with fail
  go_loopw [3] (fun i wr => ∃ (k : Nat) (V : Mm.Wi), k ≤ 70 ∧ i = .int .i64 k ∧ Hid (Mm.One k8 2 0 k V) ∧ Hid (OwnW At (fun g => W.heap.size ≤ g ∧ g ≠ w0.heap.size) wr p V) ∧ Hid (Ctx W (fun g => W.heap.size ≤ g ∧ g ≠ w0.heap.size) wr) ∧ Hid (Lies wr w0.heap.size false 7 false ⟨#[]⟩)) (fun i _ => 70 - (intOf i).toNat)
  case atStart => exact ⟨0, W1, by decide, rfl, H1, OB, hC, LF⟩
  case round =>
    clear OB hC LF LF0 LF1 LF2 LF3 H1
    obtain ⟨k, V, hk, rfl, H1, OB, hC, LF⟩ := hrel
    by_cases hlt : k < 70
    · have HS : Hid (Mm.One k8 2 0 (k + 1) (Mm.wnext V false)) := (Mm.one_step k8_is (by decide) (by decide) H1.out).2.1
      have hbl : V.bs.length ≤ 100000 := by rw [H1.out.2.2]; omega
      go_wp2_with fail
      refine (ow_step S false hbl OB.out hC.out).mono ?_
      rintro e w' ⟨sl, cp, rfl, EV', O', C', hk'⟩
      replace hC : Hid (Ctx W _ w') := C'
      replace OB : Hid (OwnW At _ w' _ _) := O'
      have EV : Hid (EvIn w' sl cp _) := EV'
      clear EV'
      replace LF : Hid (Lies w' _ _ _ _ _) := (LF.out.kept hk' LFP.out)
      try clear LF0 LF1 LF2 LF3
      have LF0 := LF.out.c0
      have LF1 := LF.out.c1
      have LF2 := LF.out.c2
      have LF3 := LF.out.c3
      clear O' C' hk'
      clear LF0 LF1 LF2 LF3 EV hbl H1
      go_wp2
      go_roundw
      case rel => exact ⟨k + 1, Mm.wnext V false, by omega, rfl, HS, OB, hC, LF⟩
      case measure => simp only [intOf]; omega
    · obtain rfl : k = 70 := by omega
      obtain ⟨g1, g2⟩ := k8_len
      have hh := H1.out.2.1
      have hm := H1.out.1
      have eS : Mm.hS k8 70 = [⟨6, Cm.noF, 0⟩, ⟨1, k8, 0⟩] := by unfold Mm.hS; rw [if_neg (by decide), if_neg (by omega)]
      have eL : Mm.hL k8 70 = [⟨6, Cm.noF, 0⟩, ⟨2, k8, 0⟩] := by unfold Mm.hL; rw [if_neg (by decide), if_neg (by omega)]
      have e0 : (if 0 < V.ms.length then V.hs.getD 0 [] else []) = [⟨6, Cm.noF, 0⟩, ⟨1, k8, 0⟩] := by rw [hm, hh, Mm.pl_len, if_pos (by decide), Mm.pl_get _ _ _ _ _ _ (by decide), if_pos rfl, eS]
      have e1 : (if 1 < V.ms.length then V.hs.getD 1 [] else []) = [⟨6, Cm.noF, 0⟩, ⟨2, k8, 0⟩] := by rw [hm, hh, Mm.pl_len, if_pos (by decide), Mm.pl_get _ _ _ _ _ _ (by decide), if_neg (by decide), eL]
      have H7 : Hid (¬ ((0 : Int) ≤ 7 ∧ (7 : Int) < V.ms.length)) := (by show ¬ _; rw [hm, Mm.pl_len]; decide)
      clear hh hm eS eL H1 g1 g2 hlt hk
      go_wp2_with fail
      refine (ow_heard S 0 _ (by decide) e0 OB.out).mono ?_
      rintro e w' ⟨sEA, cEA, rfl, EV', hb'⟩
      replace OB : Hid (OwnW At _ w' _ _) := OB.out.on S hb'
      replace hC : Hid (Ctx W _ w') := hC.out.more hb'
      replace LF : Hid (Lies w' _ _ _ _ _) := LF.out.on hb'
      have EA : Hid (EvIn w' sEA cEA _) := EV'
      clear EV' hb'
      try clear LF0 LF1 LF2 LF3
      have LF0 := LF.out.c0
      have LF1 := LF.out.c1
      have LF2 := LF.out.c2
      have LF3 := LF.out.c3
      go_wp2_with fail
      refine (ow_heard S 1 _ (by decide) e1 OB.out).mono ?_
      rintro e w' ⟨sEB, cEB, rfl, EV', hb'⟩
      replace OB : Hid (OwnW At _ w' _ _) := OB.out.on S hb'
      replace hC : Hid (Ctx W _ w') := hC.out.more hb'
      replace LF : Hid (Lies w' _ _ _ _ _) := LF.out.on hb'
      replace EA : Hid (EvIn w' _ _ _) := EA.out.on hb'
      have EB : Hid (EvIn w' sEB cEB _) := EV'
      clear EV' hb'
      try clear LF0 LF1 LF2 LF3
      have LF0 := LF.out.c0
      have LF1 := LF.out.c1
      have LF2 := LF.out.c2
      have LF3 := LF.out.c3
      clear e0 e1
      obtain ⟨gA, oA, rfl, gAl, gAc⟩ := EA.out.at 1 _ rfl
      obtain ⟨gB, oB, rfl, gBl, gBc⟩ := EB.out.at 1 _ rfl
      obtain ⟨cA1, cA2⟩ : 2 ≤ cEA ∧ cEA ≤ maxLen := ⟨EA.out.1, EA.out.2.1⟩
      obtain ⟨cB1, cB2⟩ : 2 ≤ cEB ∧ cEB ≤ maxLen := ⟨EB.out.1, EB.out.2.1⟩
      have HCA : Hid (∀ w9, Below w'.heap.size w' w9 → w9.cell? ⟨gA, oA + 6, none⟩ = some (.int .i64 1)) := fun w9 hb => (hb.cell (p := ⟨gA, oA + 6, none⟩) gAl).trans (gAc 0 _ rfl)
      have HCB : Hid (∀ w9, Below w'.heap.size w' w9 → w9.cell? ⟨gB, oB + 6, none⟩ = some (.int .i64 2) ∧ w9.cell? ⟨gB, oB + 7, none⟩ = some (.bool false) ∧ w9.cell? ⟨gB, oB + 8, none⟩ = some (.int .u32 7) ∧ w9.cell? ⟨gB, oB + 9, none⟩ = some (.bool false) ∧ w9.cell? ⟨gB, oB + 10, none⟩ = some (.string ⟨#[]⟩)) := fun w9 hb =>
        ⟨(hb.cell (p := ⟨gB, oB + 6, none⟩) gBl).trans (gBc 0 _ rfl), (hb.cell (p := ⟨gB, oB + 7, none⟩) gBl).trans (gBc 1 _ rfl), (hb.cell (p := ⟨gB, oB + 8, none⟩) gBl).trans (gBc 2 _ rfl), (hb.cell (p := ⟨gB, oB + 9, none⟩) gBl).trans (gBc 3 _ rfl), (hb.cell (p := ⟨gB, oB + 10, none⟩) gBl).trans (gBc 4 _ rfl)⟩
      have HLF : Hid (∀ w9, Below w'.heap.size w' w9 → w9.cell? ⟨w0.heap.size, 0, none⟩ = some (.bool false) ∧ w9.cell? ⟨w0.heap.size, 1, none⟩ = some (.int .u32 7) ∧ w9.cell? ⟨w0.heap.size, 2, none⟩ = some (.bool false) ∧ w9.cell? ⟨w0.heap.size, 3, none⟩ = some (.string ⟨#[]⟩)) := fun w9 hb => ⟨(LF.out.on hb).c0, (LF.out.on hb).c1, (LF.out.on hb).c2, (LF.out.on hb).c3⟩
      have H9 : Hid (∀ w9, Below w'.heap.size w' w9 → Calls Tryz.prog 13 #[bptr p, .int .i64 7] w9 fun e w'' => e = .returned (.slice none 0 0) ∧ Below w9.heap.size w9 w'') := fun w9 hb => ow_heardNo S 7 (by decide) H7.out (OB.out.on S hb)
      clear gAc gBc EA EB LF LF0 LF1 LF2 LF3 gAl gBl OB H7
      go_wp2_with fail
      refine Lw.wp_region_quiet_below (by kernel_rfl) (by kernel_rfl) ?_
      repeat (first
        | go_big_quiet_skip
        | (go_big_quiet_want; go_big_quiet_op; go_big_quiet_on)
        | (go_big_quiet_want; go_big_quiet_op; apply Exists.intro; refine ⟨fun _ hb' => ?_, ?_⟩; (first
          | exact Lw.val_rfl _
          | (go_at_call 13; exact Lw.calls_below hb' (H9.out _ hb'))
          | (simp [go_sem, HCA.out _ hb']; rfl)
          | (simp [go_sem, (HCB.out _ hb').1]; rfl)
          | (simp [go_sem, (HCB.out _ hb').2.1, (HCB.out _ hb').2.2.1, (HCB.out _ hb').2.2.2.1, (HCB.out _ hb').2.2.2.2]; rfl)
          | (simp [go_sem, (HLF.out _ hb').1, (HLF.out _ hb').2.1, (HLF.out _ hb').2.2.1, (HLF.out _ hb').2.2.2]; rfl)); go_big_quiet_on))
      refine wpQuiet_nil ?_
      intro w9 hb9
      have hC9 := hC.out.more hb9
      go_wp2
      go_ret
      exact ⟨rfl, hC9.below⟩
end Go.Proofs.YthkaekpoicodeaaGreatDoor
