/- Law 7's own 'known' over package mac. -/
import Derived.Test.YthappkhiiopfgabDoorM4
import Derived.Test.YthappkhiiopfgabDoorYd
import Derived.Test.YthappkhiiopfgabDoorU2
import Derived.Test.YthappkhiiopfgabDoorGi
namespace Go.Proofs.YthappkhiiopfgabDoor
open Go.RowKit
set_option linter.unusedVariables false
variable {At : World → Nat → (Nat → Prop) → Mm.St → Prop}
def kf : Cm.Fr := (false, 1365, false, [])
theorem kf_is : Mm.isFr kf = true := by decide
/-- Package code's Acked and Len, as the laws lean on them. -/
def AckSpec : Prop := ∀ (f : Cm.Fr) (w : World), Tab w → f.2.1 < 4294967296 → Calls Tryd.prog 14 #[frV f] w fun e w' => e = .returned (.string ⟨(Bm.row (Cm.ack f.1 f.2.1 f.2.2.1 f.2.2.2)).toArray⟩) ∧ Below w.heap.size w w'
/-- What Acked answers, of a frame. -/
theorem ack_row (f : Cm.Fr) (hf : Mm.isFr f = true) : Cm.ack f.1 f.2.1 f.2.2.1 f.2.2.2 = Mm.ackB f := by
  unfold Cm.ack
  have : Fm.isF f.1 f.2.1 f.2.2.1 f.2.2.2 = true := hf
  rw [this]
  rfl
/-- The text's byte at a place, as a bit. -/
theorem bit_byte (b : Bool) : ((Bm.sign b) != 48) = b := by cases b <;> rfl
theorem idx_row (bs : List Bool) (i : Nat) (hi : i < bs.length) (W : World) : (Instr.index 9 (.string ⟨(Bm.row bs).toArray⟩) (.int .i64 (i : Int))).run Tryd.prog W = .ok (.int .u8 ((Bm.sign (bs.getD i true)).toNat : Int)) W := by
  have hz : i < (ByteArray.mk (Bm.row bs).toArray).size := by show i < (Bm.row bs).toArray.size; simpa [Bm.row] using hi
  rw [run_idx 9 Tryd.underlying9 _ i _ rfl hz W]
  have e : (ByteArray.mk (Bm.row bs).toArray)[i]'hz = Bm.sign (bs.getD i true) := by
    show (Bm.row bs).toArray[i]'hz = _
    simp [Bm.row, List.getD_eq_getElem?_getD, List.getElem?_eq_getElem hi]
  rw [e]
theorem Lies.kept {w w' : World} {P : Nat → Prop} {g : Nat} {x : Bool} {n : Nat} {r : Bool} {d : ByteArray} (h : Lies w g x n r d) (hk : Kept P w w') (hp : ¬ P g) : Lies w' g x n r d := (hk.block g h.lt hp).trans h
set_option maxRecDepth 100000 in
set_option maxHeartbeats 4000000 in
theorem known7_any (S : MacSpec At) (HK : AckSpec) (W : World) (hT : Tab W) : Calls Tryd.prog 7 #[] W fun e w' => e = .returned (.bool true) ∧ Below W.heap.size W w' := by
  have hC : Hid (Ctx W (fun g => W.heap.size ≤ g) W) := Ctx.start hT
  have HKk : Hid (AckSpec) := HK
  clear hT HK
  go_enter Tryd.func7, Tryd.ntmps7
  go_wp2_with fail
  refine (am_new S hC.out).mono ?_
  rintro e w0 ⟨p, rfl, O', C', hk'⟩
  replace hC : Hid (Ctx W _ w0) := C'
  have OM : Hid (OwnM At _ w0 _ _) := O'
  clear O' C' hk'
  have hb : Below w0.heap.size w0 (w0.alloc (.cells #[.bool false, .int .u32 1365, .bool false, .string ⟨#[]⟩] 24)) := (Below.refl _ _).alloc (Nat.le_refl _) _
  have LF : Hid (Lies (w0.alloc (.cells #[.bool false, .int .u32 1365, .bool false, .string ⟨#[]⟩] 24)) w0.heap.size false 1365 false ⟨#[]⟩) := Lies.new w0 false 1365 false ⟨#[]⟩
  replace OM : Hid (OwnM At _ _ _ _) := (OM.out.avoid S w0.heap.size (Nat.le_refl _)).on S hb
  replace hC : Hid (Ctx W (fun g => W.heap.size ≤ g ∧ g ≠ w0.heap.size) _) := (hC.out.more hb).avoid w0.heap.size (by simp)
  have LFP : Hid (¬ (fun g => W.heap.size ≤ g ∧ g ≠ w0.heap.size) w0.heap.size) := fun h => h.2 rfl
  clear hb
  go_wp2_with fail
  refine (am_idle S (b := false) rfl OM.out hC.out).mono ?_
  rintro e w' ⟨rfl, O', C', hk'⟩
  replace hC : Hid (Ctx W _ w') := C'
  replace OM : Hid (OwnM At _ w' _ _) := O'
  replace LF : Hid (Lies w' _ _ _ _ _) := LF.out.kept hk' LFP.out
  try clear LF0 LF1 LF2 LF3
  have LF0 := LF.out.c0
  have LF1 := LF.out.c1
  have LF2 := LF.out.c2
  have LF3 := LF.out.c3
  clear O' C' hk'
  go_wp2_with fail
  refine (am_drive S (v := 49) rfl OM.out hC.out).mono ?_
  rintro e w' ⟨rfl, O', C', hk'⟩
  replace hC : Hid (Ctx W _ w') := C'
  replace OM : Hid (OwnM At _ w' _ _) := O'
  replace LF : Hid (Lies w' _ _ _ _ _) := LF.out.kept hk' LFP.out
  try clear LF0 LF1 LF2 LF3
  have LF0 := LF.out.c0
  have LF1 := LF.out.c1
  have LF2 := LF.out.c2
  have LF3 := LF.out.c3
  clear O' C' hk'
  go_wp2_with fail
  go_loopw [3] (fun i wr => ∃ k : Nat, k ≤ 3 ∧ i = .int .i64 k ∧ Hid (OwnM At _ wr p (if k = 3 then Mm.idS false Cm.noF [] false 0 0 else Mm.pz (3 - k) false Cm.noF [] false 0 0)) ∧ Hid (Ctx W (fun g => W.heap.size ≤ g ∧ g ≠ w0.heap.size) wr) ∧ Hid (Lies wr w0.heap.size false 1365 false ⟨#[]⟩)) (fun i _ => 3 - (intOf i).toNat)
  case atStart => exact ⟨0, by decide, rfl, OM, hC, LF⟩
  case round =>
    clear OM hC LF LF0 LF1 LF2 LF3
    obtain ⟨k, hk, rfl, OM, hC, LF⟩ := hrel
    have LF0 := LF.out.c0
    have LF1 := LF.out.c1
    have LF2 := LF.out.c2
    have LF3 := LF.out.c3
    obtain rfl | rfl | rfl | rfl : k = 0 ∨ k = 1 ∨ k = 2 ∨ k = 3 := by omega
    · skip
      go_wp2_with fail
      refine (am_quiet S 49 (Mm.pz_one 1 _ _ _ _ _ _) OM.out hC.out).mono ?_
      rintro e w' ⟨sl, cp, rfl, O', C', hk'⟩
      replace hC : Hid (Ctx W _ w') := C'
      replace OM : Hid (OwnM At _ w' _ _) := O'
      replace LF : Hid (Lies w' _ _ _ _ _) := LF.out.kept hk' LFP.out
      try clear LF0 LF1 LF2 LF3
      have LF0 := LF.out.c0
      have LF1 := LF.out.c1
      have LF2 := LF.out.c2
      have LF3 := LF.out.c3
      clear O' C' hk'
      clear LF0 LF1 LF2 LF3
      go_wp2
      go_roundw
      case rel => exact ⟨1, by decide, rfl, OM, hC, LF⟩
      case measure => decide
    · skip
      go_wp2_with fail
      refine (am_quiet S 49 (Mm.pz_one 0 _ _ _ _ _ _) OM.out hC.out).mono ?_
      rintro e w' ⟨sl, cp, rfl, O', C', hk'⟩
      replace hC : Hid (Ctx W _ w') := C'
      replace OM : Hid (OwnM At _ w' _ _) := O'
      replace LF : Hid (Lies w' _ _ _ _ _) := LF.out.kept hk' LFP.out
      try clear LF0 LF1 LF2 LF3
      have LF0 := LF.out.c0
      have LF1 := LF.out.c1
      have LF2 := LF.out.c2
      have LF3 := LF.out.c3
      clear O' C' hk'
      clear LF0 LF1 LF2 LF3
      go_wp2
      go_roundw
      case rel => exact ⟨2, by decide, rfl, OM, hC, LF⟩
      case measure => decide
    · skip
      go_wp2_with fail
      refine (am_quiet S 49 (Mm.pz_last _ _ _ _ _ _) OM.out hC.out).mono ?_
      rintro e w' ⟨sl, cp, rfl, O', C', hk'⟩
      replace hC : Hid (Ctx W _ w') := C'
      replace OM : Hid (OwnM At _ w' _ _) := O'
      replace LF : Hid (Lies w' _ _ _ _ _) := LF.out.kept hk' LFP.out
      try clear LF0 LF1 LF2 LF3
      have LF0 := LF.out.c0
      have LF1 := LF.out.c1
      have LF2 := LF.out.c2
      have LF3 := LF.out.c3
      clear O' C' hk'
      clear LF0 LF1 LF2 LF3
      go_wp2
      go_roundw
      case rel => exact ⟨3, by decide, rfl, OM, hC, LF⟩
      case measure => decide
    · skip
      go_wp2_with fail
      refine (am_idle S (b := true) rfl OM.out hC.out).mono ?_
      rintro e w' ⟨rfl, O', C', hk'⟩
      replace hC : Hid (Ctx W _ w') := C'
      replace OM : Hid (OwnM At _ w' _ _) := O'
      replace LF : Hid (Lies w' _ _ _ _ _) := LF.out.kept hk' LFP.out
      try clear LF0 LF1 LF2 LF3
      have LF0 := LF.out.c0
      have LF1 := LF.out.c1
      have LF2 := LF.out.c2
      have LF3 := LF.out.c3
      clear O' C' hk'
      go_wp2_with fail
      refine (am_ask S kf (k := 0) (m' := Mm.idS true kf [] false 0 0) rfl (by decide) (by decide) OM.out hC.out).mono ?_
      rintro e w' ⟨rfl, O', C', hk'⟩
      replace hC : Hid (Ctx W _ w') := C'
      replace OM : Hid (OwnM At _ w' _ _) := O'
      replace LF : Hid (Lies w' _ _ _ _ _) := LF.out.kept hk' LFP.out
      try clear LF0 LF1 LF2 LF3
      have LF0 := LF.out.c0
      have LF1 := LF.out.c1
      have LF2 := LF.out.c2
      have LF3 := LF.out.c3
      clear O' C' hk'
      go_wp2_with fail
      refine (am_ask S kf (k := 72) (m' := Mm.idS true kf [] false 0 0) rfl (by decide) (by decide) OM.out hC.out).mono ?_
      rintro e w' ⟨rfl, O', C', hk'⟩
      replace hC : Hid (Ctx W _ w') := C'
      replace OM : Hid (OwnM At _ w' _ _) := O'
      replace LF : Hid (Lies w' _ _ _ _ _) := LF.out.kept hk' LFP.out
      try clear LF0 LF1 LF2 LF3
      have LF0 := LF.out.c0
      have LF1 := LF.out.c1
      have LF2 := LF.out.c2
      have LF3 := LF.out.c3
      clear O' C' hk'
      go_wp2_with fail
      refine (am_busy S (b := true) rfl OM.out hC.out).mono ?_
      rintro e w' ⟨rfl, O', C', hk'⟩
      replace hC : Hid (Ctx W _ w') := C'
      replace OM : Hid (OwnM At _ w' _ _) := O'
      replace LF : Hid (Lies w' _ _ _ _ _) := LF.out.kept hk' LFP.out
      try clear LF0 LF1 LF2 LF3
      have LF0 := LF.out.c0
      have LF1 := LF.out.c1
      have LF2 := LF.out.c2
      have LF3 := LF.out.c3
      clear O' C' hk'
      go_wp2_with fail
      refine (am_drive S (v := 48) rfl OM.out hC.out).mono ?_
      rintro e w' ⟨rfl, O', C', hk'⟩
      replace hC : Hid (Ctx W _ w') := C'
      replace OM : Hid (OwnM At _ w' _ _) := O'
      replace LF : Hid (Lies w' _ _ _ _ _) := LF.out.kept hk' LFP.out
      try clear LF0 LF1 LF2 LF3
      have LF0 := LF.out.c0
      have LF1 := LF.out.c1
      have LF2 := LF.out.c2
      have LF3 := LF.out.c3
      clear O' C' hk'
      go_wp2_with fail
      refine (HKk.out kf _ hC.out.tab (by decide)).mono ?_
      rintro e w2 ⟨rfl, hb2⟩
      rw [ack_row kf kf_is]
      replace hC : Hid (Ctx W _ w2) := hC.out.more hb2
      replace OM : Hid (OwnM At _ w2 _ _) := OM.out.on S hb2
      replace LF : Hid (Lies w2 _ _ _ _ _) := LF.out.on hb2
      clear hb2 LF0 LF1 LF2 LF3 HKk
      have hL : (ByteArray.mk (Bm.row (Mm.ackB kf)).toArray).size = (Mm.outB kf).length := by
        show (Bm.row (Mm.ackB kf)).toArray.size = _
        rw [← Mm.ack_len]
        simp [Bm.row]
      have HI : Hid (∀ (k : Nat) (W : World), k < (Mm.outB kf).length → (Instr.index 9 (.string ⟨(Bm.row (Mm.ackB kf)).toArray⟩) (.int .i64 (k : Int))).run Tryd.prog W = .ok (.int .u8 ((Bm.sign ((Mm.ackB kf).getD k true)).toNat : Int)) W) := fun k W hk => idx_row _ k (by rw [Mm.ack_len]; exact hk) W
      obtain ⟨hL1, hL2⟩ := Mm.out_len kf_is
      have HB : Hid (∀ k, k + 1 < (Mm.outB kf).length → ∀ c, c = Bm.sign ((Mm.ackB kf).getD k true) → Mm.sample (Mm.tst kf [] false 0 0 k) (c != 48) = (Mm.tst kf [] false 0 0 (k + 1), if k = 0 then [⟨6, Cm.noF, 0⟩] else [])) := fun k hk c hc => by
        rw [hc, bit_byte]; exact Mm.tst_bit kf_is _ _ _ _ k hk
      have HZ : Hid (∀ k, k + 1 = (Mm.outB kf).length → ∀ c, c = Bm.sign ((Mm.ackB kf).getD k true) → Mm.sample (Mm.tst kf [] false 0 0 k) (c != 48) = (Mm.pz 3 false kf ((Mm.ackB kf).take (k + 1)) false 0 0, [⟨1, kf, 0⟩])) := fun k hk c hc => by
        rw [hc, bit_byte]; exact Mm.tst_last kf_is _ _ _ _ k hk
      generalize ByteArray.mk (Bm.row (Mm.ackB kf)).toArray = T at *
      generalize (Mm.outB kf).length = L at *
      go_wp2_with fail
      go_loopw [5] (fun i wr => ∃ k : Nat, k < L ∧ i = .int .i64 k ∧ Hid (OwnM At _ wr p (Mm.tst kf [] false 0 0 k)) ∧ Hid (Ctx W (fun g => W.heap.size ≤ g ∧ g ≠ w0.heap.size) wr) ∧ Hid (Lies wr w0.heap.size false 1365 false ⟨#[]⟩)) (fun i _ => L - (intOf i).toNat)
      case atStart => exact ⟨0, by omega, rfl, OM, hC, LF⟩
      case round =>
        clear OM hC LF
        obtain ⟨k, hk, rfl, OM, hC, LF⟩ := hrel
        have hix := fun W => HI.out k W hk
        by_cases h0 : k = 0
        · subst h0
          have EQ := HB.out 0 (by omega) _ rfl
          clear HI HB HZ
          generalize Bm.sign ((Mm.ackB kf).getD 0 true) = c at *
          have hix0 : ∀ W : World, (Instr.index 9 (.string T) (.int .i64 0)).run Tryd.prog W = .ok (.int .u8 (c.toNat : Int)) W := hix
          clear hix
          have hix := hix0
          clear hix0
          go_wp2_with fail
          refine (am_one S c EQ OM.out hC.out).mono ?_
          rintro e w' ⟨eg, ecap, rfl, O', C', hk', ec1, ec2, eL, e0, e1, e2, e3, e4, e5⟩
          replace hC : Hid (Ctx W _ w') := C'
          replace OM : Hid (OwnM At _ w' _ _) := O'
          replace LF : Hid (Lies w' _ _ _ _ _) := LF.out.kept hk' LFP.out
          try clear LF0 LF1 LF2 LF3
          have LF0 := LF.out.c0
          have LF1 := LF.out.c1
          have LF2 := LF.out.c2
          have LF3 := LF.out.c3
          clear O' C' hk'
          clear LF0 LF1 LF2 LF3 e1 e2 e3 e4 e5 hix EQ
          go_wp2
          go_roundw
          case rel => exact ⟨1, by omega, rfl, OM, hC, LF⟩
          case measure => simp [intOf]; omega
        · by_cases hl : k + 1 < L
          · have EQ := HB.out k hl _ rfl
            rw [if_neg h0] at EQ
            clear HI HB HZ
            generalize Bm.sign ((Mm.ackB kf).getD k true) = c at *
            go_wp2_with fail
            refine (am_quiet S c EQ OM.out hC.out).mono ?_
            rintro e w' ⟨sl, cp, rfl, O', C', hk'⟩
            replace hC : Hid (Ctx W _ w') := C'
            replace OM : Hid (OwnM At _ w' _ _) := O'
            replace LF : Hid (Lies w' _ _ _ _ _) := LF.out.kept hk' LFP.out
            try clear LF0 LF1 LF2 LF3
            have LF0 := LF.out.c0
            have LF1 := LF.out.c1
            have LF2 := LF.out.c2
            have LF3 := LF.out.c3
            clear O' C' hk'
            clear LF0 LF1 LF2 LF3 hix EQ
            go_wp2
            go_roundw
            case rel => exact ⟨k + 1, hl, by go_num, OM, hC, LF⟩
            case measure => simp [intOf]; omega
          · have EQ := HZ.out k (by omega) _ rfl
            clear HI HB HZ
            generalize Bm.sign ((Mm.ackB kf).getD k true) = c at *
            go_wp2_with fail
            refine (am_one S c EQ OM.out hC.out).mono ?_
            rintro e w' ⟨eg, ecap, rfl, O', C', hk', ec1, ec2, eL, e0, e1, e2, e3, e4, e5⟩
            replace hC : Hid (Ctx W _ w') := C'
            replace OM : Hid (OwnM At _ w' _ _) := O'
            replace LF : Hid (Lies w' _ _ _ _ _) := LF.out.kept hk' LFP.out
            try clear LF0 LF1 LF2 LF3
            have LF0 := LF.out.c0
            have LF1 := LF.out.c1
            have LF2 := LF.out.c2
            have LF3 := LF.out.c3
            clear O' C' hk'
            have HE : Hid (∀ w'' : World, Below w'.heap.size w' w'' → w''.cell? ⟨eg, 0, none⟩ = some (.int .i64 1) ∧ w''.cell? ⟨eg, 1, none⟩ = some (.bool false) ∧ w''.cell? ⟨eg, 2, none⟩ = some (.int .u32 1365) ∧ w''.cell? ⟨eg, 3, none⟩ = some (.bool false) ∧ w''.cell? ⟨eg, 4, none⟩ = some (.string ⟨#[]⟩)) := fun w'' hb =>
              ⟨(hb.cell (p := ⟨eg, 0, none⟩) eL).trans e0, (hb.cell (p := ⟨eg, 1, none⟩) eL).trans e1, (hb.cell (p := ⟨eg, 2, none⟩) eL).trans e2, (hb.cell (p := ⟨eg, 3, none⟩) eL).trans e3, (hb.cell (p := ⟨eg, 4, none⟩) eL).trans e4⟩
            clear LF0 LF1 LF2 LF3 hix EQ e0 e1 e2 e3 e4 e5
            have hkl : k + 1 = L := by omega
            go_wp2_with fail
            refine Lw.wp_region_quiet_below (by kernel_rfl) (by kernel_rfl) ?_
            repeat (first
              | go_big_quiet_skip
              | (go_big_quiet_want; go_big_quiet_op; go_big_quiet_on)
              | (go_big_quiet_want; go_big_quiet_op; apply Exists.intro; refine ⟨fun _ hb' => ?_, ?_⟩; (first
                | exact Lw.val_rfl _
                | (go_at_call 18; exact Lw.calls_below hb' (am_busyB S (b := false) rfl (OM.out.on S hb') (hC.out.more hb')))
                | (go_at_call 17; exact Lw.calls_below hb' (am_countsB S (a := 0) (b := 0) rfl (OM.out.on S hb') (hC.out.more hb')))
                | (simp [go_sem, (HE.out _ hb').1]; rfl)
                | (simp [go_sem, (HE.out _ hb').2.1, (HE.out _ hb').2.2.1, (HE.out _ hb').2.2.2.1, (HE.out _ hb').2.2.2.2]; rfl)
                | (simp [go_sem, (LF.out.on hb').c0, (LF.out.on hb').c1, (LF.out.on hb').c2, (LF.out.on hb').c3]; rfl)); go_big_quiet_on))
            refine wpQuiet_nil ?_
            intro w9 hb9
            have hA9 := (hC.out.more hb9).below
            go_wp2
            go_ret
            exact ⟨rfl, hA9⟩
end Go.Proofs.YthappkhiiopfgabDoor
