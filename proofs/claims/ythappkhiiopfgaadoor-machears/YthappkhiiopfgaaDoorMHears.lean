/- MacHears: a frame on the wire comes at the sixth of its last seven bits; the node says so with the second bit behind the sum; no condition. -/
import Derived.Test.YthappkhiiopfgaaDoorMh
import Derived.ProofKit
import Derived.OpenShut
namespace Go.Proofs.YthappkhiiopfgaaDoor.macHears
open Go.ChangeShapes Go.WideShapes Go.ChangeAt Go.RowKit
set_option linter.unusedVariables false
variable {At : World → Nat → (Nat → Prop) → Mm.St → Prop}
set_option maxRecDepth 100000 in
set_option maxHeartbeats 4000000 in
theorem walkF (S : MacSpec At) (HK : AckSpec) (f : Cm.Fr) (d : ByteArray) (hd : d = ⟨f.2.2.2.toArray⟩) (hn : f.2.1 < 4294967296) (la : Bool) (W : World) (hT : Tab W) :
    Calls Tryd.prog 3 #[.agg #[.bool f.1, .int .u32 (f.2.1 : Int), .bool f.2.2.1, .string d], .bool la] W fun e w' => e = .returned (.bool true) ∧ Below W.heap.size W w' := by
  have LF : Hid (Lies (W.alloc (.cells #[.bool f.1, .int .u32 (f.2.1 : Int), .bool f.2.2.1, .string d] 24)) W.heap.size f.1 f.2.1 f.2.2.1 d) := Lies.new W _ _ _ _
  have hk := known7_any S HK _ (hT.alloc (.cells #[.bool f.1, .int .u32 (f.2.1 : Int), .bool f.2.2.1, .string d] 24))
  have HT : Hid (Tab W) := hT
  have HAk : Hid (∀ w, Tab w → Calls Tryd.prog 9 #[.agg #[.bool f.1, .int .u32 (f.2.1 : Int), .bool f.2.2.1, .string d]] w fun e w' => e = .returned (.string ⟨(Bm.row (Cm.ack f.1 f.2.1 f.2.2.1 f.2.2.2)).toArray⟩) ∧ Below w.heap.size w w') := fun w hT => by rw [hd]; exact HK f w hT hn
  have HD : Hid (d = ⟨f.2.2.2.toArray⟩) := hd
  clear hT HK hd hn
  go_enter Tryd.func3, Tryd.ntmps3
  go_wp2_with fail
  refine hk.mono ?_
  rintro e w1 ⟨rfl, hb1⟩
  replace LF : Hid (Lies w1 _ _ _ _ _) := LF.out.on hb1
  have hA : Hid (Below W.heap.size W w1) := below_joinK ((Below.refl _ _).alloc (Nat.le_refl _) _) hb1 (by simp)
  clear hk hb1
  have LF0 := LF.out.c0
  have LF1 := LF.out.c1
  have LF2 := LF.out.c2
  have LF3 := LF.out.c3
  go_wp2_with fail
  refine (HAk.out _ (HT.out.below hA.out)).mono ?_
  rintro e w2 ⟨rfl, hb2⟩
  replace LF : Hid (Lies w2 _ _ _ _ _) := LF.out.on hb2
  replace hA : Hid (Below W.heap.size W w2) := hA.out.trans (hb2.mono hA.out.size)
  clear hb2 HAk LF0 LF1 LF2 LF3
  have LF0 := LF.out.c0
  have LF1 := LF.out.c1
  have LF2 := LF.out.c2
  have LF3 := LF.out.c3
  by_cases hlong : 20 < d.size
  · go_wp2
    go_ret
    exact ⟨rfl, hA.out⟩
  · cases hf : Mm.isFr f
    · rw [row_none f hf, show (ByteArray.mk (Bm.row []).toArray) = ByteArray.mk #[] from rfl]
      clear LF LF0 LF1 LF2
      go_wp2
      go_ret
      exact ⟨rfl, hA.out⟩
    · rw [ack_row f hf]
      have hL := row_len f
      obtain ⟨hL1, hL2⟩ := Mm.out_len hf
      have HIx : Hid (∀ (k : Nat) (W : World), k < (Mm.outB f).length → (Instr.index 9 (.string ⟨(Bm.row (Mm.ackB f)).toArray⟩) (.int .i64 (k : Int))).run Tryd.prog W = .ok (.int .u8 ((Bm.sign ((Mm.ackB f).getD k true)).toNat : Int)) W) := fun k W hk => idx_row _ k (by rw [Mm.ack_len]; exact hk) W
      have H0 : Hid (∀ c, c = Bm.sign ((Mm.ackB f).getD 0 true) → Mm.sample (Mm.hs false Cm.noF f 0) (c != 48) = (Mm.hs false Cm.noF f 1, [⟨6, Cm.noF, 0⟩])) := fun c hc => by rw [hc, bit_byte]; exact Mm.hs_zero _ hf
      have HB : Hid (∀ k, 0 < k → k + 1 < (Mm.outB f).length → ∀ c, c = Bm.sign ((Mm.ackB f).getD k true) → Mm.sample (Mm.hs false Cm.noF f k) (c != 48) = (Mm.hs false Cm.noF f (k + 1), if k + 2 = (Mm.outB f).length then [⟨2, f, 0⟩] else [])) := fun k h0 hk c hc => by rw [hc, bit_byte]; exact Mm.hs_bit _ _ hf k h0 hk
      have HZ : Hid (∀ k, k + 1 = (Mm.outB f).length → ∀ c, Mm.sample (Mm.hs false Cm.noF f k) c = (Mm.hs false Cm.noF f (k + 1), [])) := fun k hk c => Mm.hs_last _ _ hf k hk c
      have HDr : Hid (∀ k, k < (Mm.outB f).length → (if Mm.drive (Mm.hs false Cm.noF f k) then (49 : Int) else 48) = if k = (Mm.outB f).length - 9 then 48 else 49) := fun k hk => by
        rw [Mm.hs_drive _ _ hf k hk (fun _ => rfl), Mm.drive_byte]
        simp
      have HEn : Hid (decide ((Mm.hs false Cm.noF f (Mm.outB f).length).ph = .idle) = false ∧ Mm.busy (Mm.hs false Cm.noF f (Mm.outB f).length) = false) := by
        show _ ∧ _
        rw [Mm.hs_end _ _ hf]
        exact ⟨rfl, rfl⟩
      have hne : (ByteArray.mk (Bm.row (Mm.ackB f)).toArray).toList.isEmpty = false := txt_some (by rw [hL]; omega)
      have hds : decide ((20 : Int) < (d.size : Int)) = false := decide_eq_false (by omega)
      have hC : Hid (Ctx W (fun g => w2.heap.size ≤ g) w2) := Ctx.from HT.out hA.out
      have LFP : Hid (¬ (fun g => w2.heap.size ≤ g) W.heap.size) := Nat.not_le.2 LF.out.lt
      clear hA HT
      generalize ByteArray.mk (Bm.row (Mm.ackB f)).toArray = T at *
      generalize (Mm.outB f).length = L at *
      go_wp2_with fail
      refine (am_new S hC.out).mono ?_
      rintro e w' ⟨p, rfl, O', C', hk'⟩
      replace hC : Hid (Ctx W _ w') := C'
      have OM : Hid (OwnM At _ w' _ _) := O'
      replace LF : Hid (Lies w' _ _ _ _ _) := LF.out.kept hk' LFP.out
      try clear LF0 LF1 LF2 LF3
      have LF0 := LF.out.c0
      have LF1 := LF.out.c1
      have LF2 := LF.out.c2
      have LF3 := LF.out.c3
      clear O' C' hk'
      clear LF0 LF1 LF2 LF3
      go_wp2_with fail
      go_loopw [7] (fun i wr => ∃ k : Nat, k ≤ 5 ∧ i = .int .i64 k ∧ Hid (OwnM At (fun g => w2.heap.size ≤ g) wr p (Mm.newS k)) ∧ Hid (Ctx W (fun g => w2.heap.size ≤ g) wr) ∧ Hid (Lies wr W.heap.size f.1 f.2.1 f.2.2.1 d)) (fun i _ => 5 - (intOf i).toNat)
      case atStart => exact ⟨0, Nat.zero_le _, rfl, OM, hC, LF⟩
      case round =>
        clear OM hC LF
        obtain ⟨k, hk, rfl, OM, hC, LF⟩ := hrel
        by_cases hlt : k < 5
        · skip
          go_wp2_with fail
          refine (am_quiet S 49 (Mm.newS_one k) OM.out hC.out).mono ?_
          rintro e w' ⟨sl, cp, rfl, O', C', hk'⟩
          replace hC : Hid (Ctx W _ w') := C'
          replace OM : Hid (OwnM At _ w' _ _) := O'
          replace LF : Hid (Lies w' _ _ _ _ _) := LF.out.kept hk' LFP.out
          try clear LF0 LF1 LF2 LF3
          have LF0 := LF.out.c0
          have LF1 := LF.out.c1
          have LF2 := LF.out.c2
          have LF3 := LF.out.c3
          clear O' C' hk'
          clear LF0 LF1 LF2 LF3
          go_wp2
          go_roundw
          case rel => exact ⟨k + 1, by omega, by go_num, OM, hC, LF⟩
          case measure => simp [intOf]; omega
        · rw [Mm.newS_idle (show 3 ≤ k by omega)] at OM
          go_wp2_with fail
          go_loopw [8] (fun i wr => ∃ k : Nat, k ≤ L ∧ i = .int .i64 k ∧ Hid (OwnM At (fun g => w2.heap.size ≤ g) wr p (Mm.hs false Cm.noF f k)) ∧ Hid (Ctx W (fun g => w2.heap.size ≤ g) wr) ∧ Hid (Lies wr W.heap.size f.1 f.2.1 f.2.2.1 d)) (fun i _ => L - (intOf i).toNat)
          case atStart => exact ⟨0, Nat.zero_le _, rfl, OM, hC, LF⟩
          case round =>
            clear OM hC LF hk hlt
            obtain ⟨k, hk', rfl, OM, hC, LF⟩ := hrel
            by_cases hk : k < L
            · have hix := fun W => HIx.out k W hk
              by_cases k0 : k = 0
              · have EQ : Mm.sample (Mm.hs false Cm.noF f k) (Bm.sign ((Mm.ackB f).getD k true) != 48) = (Mm.hs false Cm.noF f (k + 1), [⟨6, Cm.noF, 0⟩]) := by rw [k0]; exact H0.out _ rfl
                have gz : ((k : Int) == 0) = true := by rw [beq_iff_eq]; omega
                have g9 : ((k : Int) == (L : Int) - 9) = false := by rw [beq_eq_false_iff_ne]; omega
                have g1 : ((k : Int) == (L : Int) - 1) = false := by rw [beq_eq_false_iff_ne]; omega
                have g2 : ((k : Int) == (L : Int) - 2) = false := by rw [beq_eq_false_iff_ne]; omega
                have hdr := HDr.out k hk
                rw [if_neg (show ¬ k = L - 9 by omega)] at hdr
                generalize Bm.sign ((Mm.ackB f).getD k true) = c at *
                clear H0 HB HZ HIx HDr k0
                go_wp2_with fail
                refine (am_drive S hdr OM.out hC.out).mono ?_
                rintro e w' ⟨rfl, O', C', hk'⟩
                replace hC : Hid (Ctx W _ w') := C'
                replace OM : Hid (OwnM At _ w' _ _) := O'
                replace LF : Hid (Lies w' _ _ _ _ _) := LF.out.kept hk' LFP.out
                try clear LF0 LF1 LF2 LF3
                have LF0 := LF.out.c0
                have LF1 := LF.out.c1
                have LF2 := LF.out.c2
                have LF3 := LF.out.c3
                clear O' C' hk'
                go_wp2_with fail
                refine (am_one S c EQ OM.out hC.out).mono ?_
                rintro e w' ⟨eg, ecap, rfl, O', C', hk', ec1, ec2, eL, e0, e1, e2, e3, e4, e5⟩
                replace hC : Hid (Ctx W _ w') := C'
                replace OM : Hid (OwnM At _ w' _ _) := O'
                replace LF : Hid (Lies w' _ _ _ _ _) := LF.out.kept hk' LFP.out
                try clear LF0 LF1 LF2 LF3
                have LF0 := LF.out.c0
                have LF1 := LF.out.c1
                have LF2 := LF.out.c2
                have LF3 := LF.out.c3
                clear O' C' hk'
                have HE : Hid (∀ w'' : World, Below w'.heap.size w' w'' → w''.cell? ⟨eg, 0, none⟩ = some (.int .i64 6) ∧ w''.cell? ⟨eg, 1, none⟩ = some (.bool Cm.noF.1) ∧ w''.cell? ⟨eg, 2, none⟩ = some (.int .u32 (Cm.noF.2.1 : Int)) ∧ w''.cell? ⟨eg, 3, none⟩ = some (.bool Cm.noF.2.2.1) ∧ w''.cell? ⟨eg, 4, none⟩ = some (.string ⟨Cm.noF.2.2.2.toArray⟩)) := fun w'' hb =>
                  ⟨(hb.cell (p := ⟨eg, 0, none⟩) eL).trans e0, (hb.cell (p := ⟨eg, 1, none⟩) eL).trans e1, (hb.cell (p := ⟨eg, 2, none⟩) eL).trans e2, (hb.cell (p := ⟨eg, 3, none⟩) eL).trans e3, (hb.cell (p := ⟨eg, 4, none⟩) eL).trans e4⟩
                clear e0 e1 e2 e3 e4 e5
                clear LF0 LF1 LF2 LF3 hix EQ hdr
                go_wp2_with fail
                refine Lw.wp_region_quiet_below (by kernel_rfl) (by kernel_rfl) ?_
                repeat (first
                  | go_big_quiet_skip
                  | (go_big_quiet_want; go_big_quiet_op; go_big_quiet_on)
                  | (go_big_quiet_want; go_big_quiet_op; apply Exists.intro; refine ⟨fun _ hb' => ?_, ?_⟩; (first
                    | exact Lw.val_rfl _); go_big_quiet_on))
                refine wpQuiet_nil ?_
                intro w9 hb9
                replace hC : Hid (Ctx W _ w9) := hC.out.more hb9
                replace OM : Hid (OwnM At _ w9 _ _) := OM.out.on S hb9
                replace LF : Hid (Lies w9 _ _ _ _ _) := LF.out.on hb9
                clear hb9
                go_wp2
                go_roundw
                case rel => exact ⟨k + 1, by omega, by go_num, OM, hC, LF⟩
                case measure => simp [intOf]; omega
              · have gz : ((k : Int) == 0) = false := by rw [beq_eq_false_iff_ne]; omega
                by_cases k1 : k + 1 = L
                · have EQ0 := fun c => HZ.out k k1 c
                  have g9 : ((k : Int) == (L : Int) - 9) = false := by rw [beq_eq_false_iff_ne]; omega
                  have g1 : ((k : Int) == (L : Int) - 1) = true := by rw [beq_iff_eq]; omega
                  have g2 : ((k : Int) == (L : Int) - 2) = false := by rw [beq_eq_false_iff_ne]; omega
                  have hdr := HDr.out k hk
                  rw [if_neg (show ¬ k = L - 9 by omega)] at hdr
                  generalize Bm.sign ((Mm.ackB f).getD k true) = c at *
                  clear H0 HB HZ HIx HDr
                  cases la
                  · have EQ := EQ0 (c != 48)
                    clear EQ0
                    go_wp2_with fail
                    refine (am_drive S hdr OM.out hC.out).mono ?_
                    rintro e w' ⟨rfl, O', C', hk'⟩
                    replace hC : Hid (Ctx W _ w') := C'
                    replace OM : Hid (OwnM At _ w' _ _) := O'
                    replace LF : Hid (Lies w' _ _ _ _ _) := LF.out.kept hk' LFP.out
                    try clear LF0 LF1 LF2 LF3
                    have LF0 := LF.out.c0
                    have LF1 := LF.out.c1
                    have LF2 := LF.out.c2
                    have LF3 := LF.out.c3
                    clear O' C' hk'
                    go_wp2_with fail
                    refine (am_quiet S c EQ OM.out hC.out).mono ?_
                    rintro e w' ⟨sl, cp, rfl, O', C', hk'⟩
                    replace hC : Hid (Ctx W _ w') := C'
                    replace OM : Hid (OwnM At _ w' _ _) := O'
                    replace LF : Hid (Lies w' _ _ _ _ _) := LF.out.kept hk' LFP.out
                    try clear LF0 LF1 LF2 LF3
                    have LF0 := LF.out.c0
                    have LF1 := LF.out.c1
                    have LF2 := LF.out.c2
                    have LF3 := LF.out.c3
                    clear O' C' hk'
                    clear LF0 LF1 LF2 LF3 hix EQ hdr
                    go_wp2_with fail
                    refine Lw.wp_region_quiet_below (by kernel_rfl) (by kernel_rfl) ?_
                    repeat (first
                      | go_big_quiet_skip
                      | (go_big_quiet_want; go_big_quiet_op; go_big_quiet_on)
                      | (go_big_quiet_want; go_big_quiet_op; apply Exists.intro; refine ⟨fun _ hb' => ?_, ?_⟩; (first
                        | exact Lw.val_rfl _); go_big_quiet_on))
                    refine wpQuiet_nil ?_
                    intro w9 hb9
                    replace hC : Hid (Ctx W _ w9) := hC.out.more hb9
                    replace OM : Hid (OwnM At _ w9 _ _) := OM.out.on S hb9
                    replace LF : Hid (Lies w9 _ _ _ _ _) := LF.out.on hb9
                    clear hb9
                    go_wp2
                    go_roundw
                    case rel => exact ⟨k + 1, by omega, by go_num, OM, hC, LF⟩
                    case measure => simp [intOf]; omega
                  · have EQ := EQ0 (48 != 48)
                    clear EQ0
                    go_wp2_with fail
                    refine (am_drive S hdr OM.out hC.out).mono ?_
                    rintro e w' ⟨rfl, O', C', hk'⟩
                    replace hC : Hid (Ctx W _ w') := C'
                    replace OM : Hid (OwnM At _ w' _ _) := O'
                    replace LF : Hid (Lies w' _ _ _ _ _) := LF.out.kept hk' LFP.out
                    try clear LF0 LF1 LF2 LF3
                    have LF0 := LF.out.c0
                    have LF1 := LF.out.c1
                    have LF2 := LF.out.c2
                    have LF3 := LF.out.c3
                    clear O' C' hk'
                    go_wp2_with fail
                    refine (am_quiet S 48 EQ OM.out hC.out).mono ?_
                    rintro e w' ⟨sl, cp, rfl, O', C', hk'⟩
                    replace hC : Hid (Ctx W _ w') := C'
                    replace OM : Hid (OwnM At _ w' _ _) := O'
                    replace LF : Hid (Lies w' _ _ _ _ _) := LF.out.kept hk' LFP.out
                    try clear LF0 LF1 LF2 LF3
                    have LF0 := LF.out.c0
                    have LF1 := LF.out.c1
                    have LF2 := LF.out.c2
                    have LF3 := LF.out.c3
                    clear O' C' hk'
                    clear LF0 LF1 LF2 LF3 hix EQ hdr
                    go_wp2_with fail
                    refine Lw.wp_region_quiet_below (by kernel_rfl) (by kernel_rfl) ?_
                    repeat (first
                      | go_big_quiet_skip
                      | (go_big_quiet_want; go_big_quiet_op; go_big_quiet_on)
                      | (go_big_quiet_want; go_big_quiet_op; apply Exists.intro; refine ⟨fun _ hb' => ?_, ?_⟩; (first
                        | exact Lw.val_rfl _); go_big_quiet_on))
                    refine wpQuiet_nil ?_
                    intro w9 hb9
                    replace hC : Hid (Ctx W _ w9) := hC.out.more hb9
                    replace OM : Hid (OwnM At _ w9 _ _) := OM.out.on S hb9
                    replace LF : Hid (Lies w9 _ _ _ _ _) := LF.out.on hb9
                    clear hb9
                    go_wp2
                    go_roundw
                    case rel => exact ⟨k + 1, by omega, by go_num, OM, hC, LF⟩
                    case measure => simp [intOf]; omega
                · by_cases k2 : k + 2 = L
                  · have EQ := HB.out k (by omega) (by omega) _ rfl
                    rw [if_pos k2] at EQ
                    have g9 : ((k : Int) == (L : Int) - 9) = false := by rw [beq_eq_false_iff_ne]; omega
                    have g1 : ((k : Int) == (L : Int) - 1) = false := by rw [beq_eq_false_iff_ne]; omega
                    have g2 : ((k : Int) == (L : Int) - 2) = true := by rw [beq_iff_eq]; omega
                    have hdr := HDr.out k hk
                    rw [if_neg (show ¬ k = L - 9 by omega)] at hdr
                    generalize Bm.sign ((Mm.ackB f).getD k true) = c at *
                    clear H0 HB HZ HIx HDr
                    go_wp2_with fail
                    refine (am_drive S hdr OM.out hC.out).mono ?_
                    rintro e w' ⟨rfl, O', C', hk'⟩
                    replace hC : Hid (Ctx W _ w') := C'
                    replace OM : Hid (OwnM At _ w' _ _) := O'
                    replace LF : Hid (Lies w' _ _ _ _ _) := LF.out.kept hk' LFP.out
                    try clear LF0 LF1 LF2 LF3
                    have LF0 := LF.out.c0
                    have LF1 := LF.out.c1
                    have LF2 := LF.out.c2
                    have LF3 := LF.out.c3
                    clear O' C' hk'
                    go_wp2_with fail
                    refine (am_one S c EQ OM.out hC.out).mono ?_
                    rintro e w' ⟨eg, ecap, rfl, O', C', hk', ec1, ec2, eL, e0, e1, e2, e3, e4, e5⟩
                    replace hC : Hid (Ctx W _ w') := C'
                    replace OM : Hid (OwnM At _ w' _ _) := O'
                    replace LF : Hid (Lies w' _ _ _ _ _) := LF.out.kept hk' LFP.out
                    try clear LF0 LF1 LF2 LF3
                    have LF0 := LF.out.c0
                    have LF1 := LF.out.c1
                    have LF2 := LF.out.c2
                    have LF3 := LF.out.c3
                    clear O' C' hk'
                    have HE : Hid (∀ w'' : World, Below w'.heap.size w' w'' → w''.cell? ⟨eg, 0, none⟩ = some (.int .i64 2) ∧ w''.cell? ⟨eg, 1, none⟩ = some (.bool f.1) ∧ w''.cell? ⟨eg, 2, none⟩ = some (.int .u32 (f.2.1 : Int)) ∧ w''.cell? ⟨eg, 3, none⟩ = some (.bool f.2.2.1) ∧ w''.cell? ⟨eg, 4, none⟩ = some (.string d)) := fun w'' hb =>
                      ⟨(hb.cell (p := ⟨eg, 0, none⟩) eL).trans e0, (hb.cell (p := ⟨eg, 1, none⟩) eL).trans e1, (hb.cell (p := ⟨eg, 2, none⟩) eL).trans e2, (hb.cell (p := ⟨eg, 3, none⟩) eL).trans e3, (hb.cell (p := ⟨eg, 4, none⟩) eL).trans (by rw [HD.out]; exact e4)⟩
                    clear e0 e1 e2 e3 e4 e5
                    clear LF0 LF1 LF2 LF3 hix EQ hdr
                    go_wp2_with fail
                    refine Lw.wp_region_quiet_below (by kernel_rfl) (by kernel_rfl) ?_
                    repeat (first
                      | go_big_quiet_skip
                      | (go_big_quiet_want; go_big_quiet_op; go_big_quiet_on)
                      | (go_big_quiet_want; go_big_quiet_op; apply Exists.intro; refine ⟨fun _ hb' => ?_, ?_⟩; (first
                        | exact Lw.val_rfl _
                        | (simp [go_sem, (HE.out _ hb').1]; rfl)
                        | (simp [go_sem, (HE.out _ hb').2.1, (HE.out _ hb').2.2.1, (HE.out _ hb').2.2.2.1, (HE.out _ hb').2.2.2.2]; rfl)
                        | (simp [go_sem, (LF.out.on hb').c0, (LF.out.on hb').c1, (LF.out.on hb').c2, (LF.out.on hb').c3]; rfl)); go_big_quiet_on))
                    refine wpQuiet_nil ?_
                    intro w9 hb9
                    replace hC : Hid (Ctx W _ w9) := hC.out.more hb9
                    replace OM : Hid (OwnM At _ w9 _ _) := OM.out.on S hb9
                    replace LF : Hid (Lies w9 _ _ _ _ _) := LF.out.on hb9
                    clear hb9
                    go_wp2
                    go_roundw
                    case rel => exact ⟨k + 1, by omega, by go_num, OM, hC, LF⟩
                    case measure => simp [intOf]; omega
                  · have EQ := HB.out k (by omega) (by omega) _ rfl
                    rw [if_neg k2] at EQ
                    by_cases k9 : k = L - 9
                    · skip
                      have g9 : ((k : Int) == (L : Int) - 9) = true := by rw [beq_iff_eq]; omega
                      have g1 : ((k : Int) == (L : Int) - 1) = false := by rw [beq_eq_false_iff_ne]; omega
                      have g2 : ((k : Int) == (L : Int) - 2) = false := by rw [beq_eq_false_iff_ne]; omega
                      have hdr := HDr.out k hk
                      rw [if_pos (show k = L - 9 by omega)] at hdr
                      generalize Bm.sign ((Mm.ackB f).getD k true) = c at *
                      clear H0 HB HZ HIx HDr k9
                      go_wp2_with fail
                      refine (am_drive S hdr OM.out hC.out).mono ?_
                      rintro e w' ⟨rfl, O', C', hk'⟩
                      replace hC : Hid (Ctx W _ w') := C'
                      replace OM : Hid (OwnM At _ w' _ _) := O'
                      replace LF : Hid (Lies w' _ _ _ _ _) := LF.out.kept hk' LFP.out
                      try clear LF0 LF1 LF2 LF3
                      have LF0 := LF.out.c0
                      have LF1 := LF.out.c1
                      have LF2 := LF.out.c2
                      have LF3 := LF.out.c3
                      clear O' C' hk'
                      go_wp2_with fail
                      refine (am_quiet S c EQ OM.out hC.out).mono ?_
                      rintro e w' ⟨sl, cp, rfl, O', C', hk'⟩
                      replace hC : Hid (Ctx W _ w') := C'
                      replace OM : Hid (OwnM At _ w' _ _) := O'
                      replace LF : Hid (Lies w' _ _ _ _ _) := LF.out.kept hk' LFP.out
                      try clear LF0 LF1 LF2 LF3
                      have LF0 := LF.out.c0
                      have LF1 := LF.out.c1
                      have LF2 := LF.out.c2
                      have LF3 := LF.out.c3
                      clear O' C' hk'
                      clear LF0 LF1 LF2 LF3 hix EQ hdr
                      go_wp2_with fail
                      refine Lw.wp_region_quiet_below (by kernel_rfl) (by kernel_rfl) ?_
                      repeat (first
                        | go_big_quiet_skip
                        | (go_big_quiet_want; go_big_quiet_op; go_big_quiet_on)
                        | (go_big_quiet_want; go_big_quiet_op; apply Exists.intro; refine ⟨fun _ hb' => ?_, ?_⟩; (first
                          | exact Lw.val_rfl _); go_big_quiet_on))
                      refine wpQuiet_nil ?_
                      intro w9 hb9
                      replace hC : Hid (Ctx W _ w9) := hC.out.more hb9
                      replace OM : Hid (OwnM At _ w9 _ _) := OM.out.on S hb9
                      replace LF : Hid (Lies w9 _ _ _ _ _) := LF.out.on hb9
                      clear hb9
                      go_wp2
                      go_roundw
                      case rel => exact ⟨k + 1, by omega, by go_num, OM, hC, LF⟩
                      case measure => simp [intOf]; omega
                    · skip
                      have g9 : ((k : Int) == (L : Int) - 9) = false := by rw [beq_eq_false_iff_ne]; omega
                      have g1 : ((k : Int) == (L : Int) - 1) = false := by rw [beq_eq_false_iff_ne]; omega
                      have g2 : ((k : Int) == (L : Int) - 2) = false := by rw [beq_eq_false_iff_ne]; omega
                      have hdr := HDr.out k hk
                      rw [if_neg (show ¬ k = L - 9 by omega)] at hdr
                      generalize Bm.sign ((Mm.ackB f).getD k true) = c at *
                      clear H0 HB HZ HIx HDr k9
                      go_wp2_with fail
                      refine (am_drive S hdr OM.out hC.out).mono ?_
                      rintro e w' ⟨rfl, O', C', hk'⟩
                      replace hC : Hid (Ctx W _ w') := C'
                      replace OM : Hid (OwnM At _ w' _ _) := O'
                      replace LF : Hid (Lies w' _ _ _ _ _) := LF.out.kept hk' LFP.out
                      try clear LF0 LF1 LF2 LF3
                      have LF0 := LF.out.c0
                      have LF1 := LF.out.c1
                      have LF2 := LF.out.c2
                      have LF3 := LF.out.c3
                      clear O' C' hk'
                      go_wp2_with fail
                      refine (am_quiet S c EQ OM.out hC.out).mono ?_
                      rintro e w' ⟨sl, cp, rfl, O', C', hk'⟩
                      replace hC : Hid (Ctx W _ w') := C'
                      replace OM : Hid (OwnM At _ w' _ _) := O'
                      replace LF : Hid (Lies w' _ _ _ _ _) := LF.out.kept hk' LFP.out
                      try clear LF0 LF1 LF2 LF3
                      have LF0 := LF.out.c0
                      have LF1 := LF.out.c1
                      have LF2 := LF.out.c2
                      have LF3 := LF.out.c3
                      clear O' C' hk'
                      clear LF0 LF1 LF2 LF3 hix EQ hdr
                      go_wp2_with fail
                      refine Lw.wp_region_quiet_below (by kernel_rfl) (by kernel_rfl) ?_
                      repeat (first
                        | go_big_quiet_skip
                        | (go_big_quiet_want; go_big_quiet_op; go_big_quiet_on)
                        | (go_big_quiet_want; go_big_quiet_op; apply Exists.intro; refine ⟨fun _ hb' => ?_, ?_⟩; (first
                          | exact Lw.val_rfl _); go_big_quiet_on))
                      refine wpQuiet_nil ?_
                      intro w9 hb9
                      replace hC : Hid (Ctx W _ w9) := hC.out.more hb9
                      replace OM : Hid (OwnM At _ w9 _ _) := OM.out.on S hb9
                      replace LF : Hid (Lies w9 _ _ _ _ _) := LF.out.on hb9
                      clear hb9
                      go_wp2
                      go_roundw
                      case rel => exact ⟨k + 1, by omega, by go_num, OM, hC, LF⟩
                      case measure => simp [intOf]; omega
            · have hkL : k = L := by omega
              have h1 : decide ((Mm.hs false Cm.noF f k).ph = .idle) = false := by rw [hkL]; exact HEn.out.1
              have h2 : Mm.busy (Mm.hs false Cm.noF f k) = false := by rw [hkL]; exact HEn.out.2
              clear H0 HB HZ HIx HDr HEn hkL
              go_wp2_with fail
              refine (am_idle S h1 OM.out hC.out).mono ?_
              rintro e w' ⟨rfl, O', C', hk'⟩
              replace hC : Hid (Ctx W _ w') := C'
              replace OM : Hid (OwnM At _ w' _ _) := O'
              replace LF : Hid (Lies w' _ _ _ _ _) := LF.out.kept hk' LFP.out
              try clear LF0 LF1 LF2 LF3
              have LF0 := LF.out.c0
              have LF1 := LF.out.c1
              have LF2 := LF.out.c2
              have LF3 := LF.out.c3
              clear O' C' hk'
              go_wp2_with fail
              refine (am_busy S h2 OM.out hC.out).mono ?_
              rintro e w' ⟨rfl, O', C', hk'⟩
              replace hC : Hid (Ctx W _ w') := C'
              replace OM : Hid (OwnM At _ w' _ _) := O'
              replace LF : Hid (Lies w' _ _ _ _ _) := LF.out.kept hk' LFP.out
              try clear LF0 LF1 LF2 LF3
              have LF0 := LF.out.c0
              have LF1 := LF.out.c1
              have LF2 := LF.out.c2
              have LF3 := LF.out.c3
              clear O' C' hk'
              go_wp2
              go_ret
              exact ⟨rfl, hC.out.below⟩
theorem walkA (S : MacSpec At) (HK : AckSpec) (x : Bool) (n0 : Int) (r : Bool) (d : ByteArray) (w0 : (Lit.int .u32 n0).wf = true) (la : Bool) (W : World) (hT : Tab W) :
    Calls Tryd.prog 3 #[.agg #[.bool x, .int .u32 n0, .bool r, .string d], .bool la] W fun e w' => e = .returned (.bool true) ∧ Below W.heap.size W w' := by
  obtain ⟨n, rfl, hn⟩ := u32_nat w0
  exact walkF S HK (x, n, r, d.data.toList) d rfl hn la W hT
end Go.Proofs.YthappkhiiopfgaaDoor.macHears
