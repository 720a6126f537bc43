/- MasterPlays: of every rank and slice of at most eighty bytes (others are let by): every row of beats come and sent, and watches: state, leader, whether it leads, stands, behind each; no condition. -/
import Derived.Test.YtimcjhnanjeloaaB22
import Derived.Test.YtimcjhnanjeloaaC22
import Derived.ProofKit
import Derived.OpenShut
import Derived.Deep.CutBlock
namespace Go.Proofs.Ytimcjhnanjeloaa.masterPlays
open Go.ChangeShapes Go.WideShapes Go.ChangeAt Go.RowKit
set_option linter.unusedVariables false
variable {At : Ob.A Q22.St}
set_option maxRecDepth 100000 in
set_option maxHeartbeats 8000000 in
theorem walkA (S : MasterSpec At) (a0 : Int) (w0 : (Lit.int .i64 a0).wf = true) (s1 : Option Addr) (len1 cap1 : Nat) (B : Nat → Nat) (W : World) (hin : IsU19 W s1 len1 B) : Calls Try.prog 3 #[.int .i64 a0, .slice s1 len1 cap1] W fun e w' => e = .returned (.bool true) ∧ Below W.heap.size W w' := by
  go_enter Try.func3, Try.ntmps3
  go_wp2_with fail
  refine (known22_any S _).mono ?_
  rintro e w1 ⟨rfl, hb⟩
  have HB : Hid (Below W.heap.size W w1) := hb
  clear hb
  by_cases h80 : 80 < len1
  · have h80i : (80 : Int) < (len1 : Int) := by omega
    clear hin
    go_wp2
    go_ret
    exact ⟨rfl, HB.out⟩
  have h80i : ¬ ((80 : Int) < (len1 : Int)) := by omega
  have HEl : Hid (∀ i, i < len1 → ∃ b off, s1 = some ⟨b, off, none⟩ ∧ (∀ w', Below W.heap.size W w' → w'.cell? ⟨b, off + i, none⟩ = some (.int .u8 (B i : Int))) ∧ B i < 256) := fun i hi => by
    obtain ⟨b, off, hs, hc, hB⟩ := hin i hi
    exact ⟨b, off, hs, fun w' hbl => (hbl.cell (p := ⟨b, off + i, none⟩) (block_lt_of_cell hc)).trans hc, hB⟩
  clear hin
  have HN : Hid (len1 ≤ 80) := (by omega : len1 ≤ 80)
  go_wp2_with fail
  refine (Oq.O1.make (S.new w1 a0 w0) HB.out).mono ?_
  rintro e w2 ⟨p, rfl, hq⟩
  have HO : Hid (Oq.O1 At W w2 p (Q22.mk a0) []) := hq
  clear hq HB h80i h80
  go_wp2_with fail
  refine (HO.out.make2 S.is (fun F hF => rms_new _ a0 w0)).mono ?_
  rintro e w3 ⟨q, rfl, hq⟩
  have HT : Hid (∃ s, Oq.O2 At RmsAt W w3 p s q s []) := ⟨_, hq⟩
  clear hq HO
  go_wp2_with fail
  go_loopw [7, 8] (fun vi _v8 wr => ∃ i : Nat, i ≤ len1 ∧ vi = .int .i64 (i : Int) ∧ Hid (∃ s, Oq.O2 At RmsAt W wr p s q s [])) (fun vi _ _ => len1 - (intOf vi).toNat)
  case atStart => exact ⟨0, Nat.zero_le _, rfl, HT⟩
  case round =>
    clear HT
    obtain ⟨i, hi, rfl, HTs⟩ := hrel
    by_cases hil : i < len1
    · obtain ⟨b, off, rfl, hc, hB⟩ := HEl.out i hil
      have ii : (i : Int) < (len1 : Int) := by omega
      have ib : (i : Int) < 1000 := by have := HN.out; omega
      obtain ⟨s, ho⟩ := HTs.out
      have HT : Hid (Oq.O2 At RmsAt W wr p s q s []) := ho
      have HCe : Hid (∀ w', Below W.heap.size W w' → w'.cell? ⟨b, off + i, none⟩ = some (.int .u8 (B i : Int))) := hc
      clear hc ho HTs
      generalize B i = x at HCe hB
      obtain ⟨m, hm⟩ : ∃ m, x % 8 = m := ⟨_, rfl⟩
      have em : (x : Int) % 8 = (m : Int) := by omega
      have tm : (x : Int).tmod 8 = (m : Int) := by rw [Int.tmod_eq_emod_of_nonneg (by omega)]; exact em
      obtain ⟨y, hy⟩ : ∃ y, x / 8 % 5 = y := ⟨_, rfl⟩
      have ey : (x : Int) / 8 % 5 = (y : Int) := by omega
      have hm4 : m = 5 ∨ m = 6 ∨ m = 7 ∨ (m ≠ 5 ∧ m ≠ 6 ∧ m ≠ 7) := by omega
      have HYw : Hid ((Lit.int .i64 (y : Int)).wf = true) := wf22 (by omega)
      have y5 : (y : Int) < 5 := by omega
      clear hm hy
      have xb : (x : Int) ≤ 255 := by omega
      go_wp2_with fail
      refine (HT.out.make3 S.is rmsIs (fun F hF => S.copy _ p F s hF)).mono ?_
      rintro e w3b ⟨r, rfl, hq⟩
      have HU : Hid (Oq.O3 At RmsAt At W w3b p s q s r s []) := hq
      have c0 := HCe.out _ hq.bel
      clear hq HT
      go_upto_block 2 with fail
      go_cut [] from 18 to 63 (fun wx => ∃ s', Oq.O3 At RmsAt At W wx p s' q s' r s [])
      case first =>
        rcases hm4 with rfl | rfl | rfl | ⟨m5, m6, m7⟩
        · skip
          go_wp2_with fail
          refine (HU.out.turn rmsIs S.is (fun F hF => S.sent _ p F _ hF)).mono ?_
          rintro e w4 ⟨rfl, hq⟩
          replace HU : Hid (Oq.O3 At RmsAt At W w4 p (Q22.sent s) q s r s []) := hq
          clear hq
          go_wp2_with fail
          refine (HU.out.turn2 S.is S.is (fun F hF => rms_sent _ q F _ hF)).mono ?_
          rintro e w5 ⟨rfl, hq⟩
          replace HU : Hid (Oq.O3 At RmsAt At W w5 p (Q22.sent s) q (Q22.sent s) r s []) := hq
          clear hq
          have HD : Hid (∃ s', Oq.O3 At RmsAt At W w5 p s' q s' r s []) := ⟨_, HU.out⟩
          clear HU c0 HCe
          go_wp2_with fail
          go_meet
          case rel => exact HD.out
        · skip
          go_wp2_with fail
          refine (HU.out.turn rmsIs S.is (fun F hF => S.sent _ p F _ hF)).mono ?_
          rintro e w4 ⟨rfl, hq⟩
          replace HU : Hid (Oq.O3 At RmsAt At W w4 p (Q22.sent s) q s r s []) := hq
          clear hq
          go_wp2_with fail
          refine (HU.out.turn2 S.is S.is (fun F hF => rms_sent _ q F _ hF)).mono ?_
          rintro e w5 ⟨rfl, hq⟩
          replace HU : Hid (Oq.O3 At RmsAt At W w5 p (Q22.sent s) q (Q22.sent s) r s []) := hq
          clear hq
          have HD : Hid (∃ s', Oq.O3 At RmsAt At W w5 p s' q s' r s []) := ⟨_, HU.out⟩
          clear HU c0 HCe
          go_wp2_with fail
          go_meet
          case rel => exact HD.out
        · skip
          go_wp2_with fail
          refine (HU.out.turn rmsIs S.is (fun F hF => S.watch _ p F _ hF)).mono ?_
          rintro e w4 ⟨rfl, hq⟩
          replace HU : Hid (Oq.O3 At RmsAt At W w4 p (Q22.watch s) q s r s []) := hq
          clear hq
          go_wp2_with fail
          refine (HU.out.turn2 S.is S.is (fun F hF => rms_watch _ q F _ hF)).mono ?_
          rintro e w5 ⟨rfl, hq⟩
          replace HU : Hid (Oq.O3 At RmsAt At W w5 p (Q22.watch s) q (Q22.watch s) r s []) := hq
          clear hq
          have HD : Hid (∃ s', Oq.O3 At RmsAt At W w5 p s' q s' r s []) := ⟨_, HU.out⟩
          clear HU c0 HCe
          go_wp2_with fail
          go_meet
          case rel => exact HD.out
        · have m5b : ((m : Int) == 5) = false := beq_eq_false_iff_ne.2 (by omega)
          have m6b : ((m : Int) == 6) = false := beq_eq_false_iff_ne.2 (by omega)
          have m7b : ((m : Int) == 7) = false := beq_eq_false_iff_ne.2 (by omega)
          clear m5 m6 m7
          go_wp2_with fail
          refine (HU.out.turn rmsIs S.is (fun F hF => S.beat _ p F _ (y : Int) HYw.out hF)).mono ?_
          rintro e w4 ⟨rfl, hq⟩
          replace HU : Hid (Oq.O3 At RmsAt At W w4 p (Q22.beat s (y : Int)) q s r s []) := hq
          have c0 := HCe.out _ hq.bel
          clear hq
          go_wp2_with fail
          refine (HU.out.turn2 S.is S.is (fun F hF => rms_beat _ q F _ (y : Int) HYw.out hF)).mono ?_
          rintro e w5 ⟨rfl, hq⟩
          have HD : Hid (∃ s', Oq.O3 At RmsAt At W w5 p s' q s' r s []) := ⟨_, hq⟩
          clear hq HU c0 HCe
          go_wp2_with fail
          go_meet
          case rel => exact HD.out
      case rest =>
        clear HU c0 HCe hm4
        obtain ⟨s', ho⟩ := hcut
        have HU : Hid (Oq.O3 At RmsAt At W wc p s' q s' r s []) := ho
        clear ho
        go_wp2_with fail
        refine (HU.out.turn3 S.is rmsIs (fun F hF => S.watch _ r F _ hF)).mono ?_
        rintro e w6 ⟨rfl, hq⟩
        have HT : Hid (Oq.O2 At RmsAt W w6 p s' q s' []) := hq.drop
        clear hq HU
        have HG1 : Hid (∀ w', Below w6.heap.size w6 w' → Calls Try.prog 17 #[Ob.ptr p] w' fun e w'' => e = .returned (.int .i64 (s'.st : Int)) ∧ Below w'.heap.size w' w'') := HT.out.looks S.is (fun w F hF => S.state w p F s' hF)
        have HG2 : Hid (∀ w', Below w6.heap.size w6 w' → Calls Try.prog 18 #[Ob.ptr p] w' fun e w'' => e = .returned (.int .i64 s'.lead) ∧ Below w'.heap.size w' w'') := HT.out.looks S.is (fun w F hF => S.leader w p F s' hF)
        have HG3 : Hid (∀ w', Below w6.heap.size w6 w' → Calls Try.prog 19 #[Ob.ptr p] w' fun e w'' => e = .returned (.bool (Q22.leads s')) ∧ Below w'.heap.size w' w'') := HT.out.looks S.is (fun w F hF => S.leads w p F s' hF)
        have HG4 : Hid (∀ w', Below w6.heap.size w6 w' → Calls Try.prog 21 #[Ob.ptr p] w' fun e w'' => e = .returned (.bool (decide (0 ≤ s'.rank))) ∧ Below w'.heap.size w' w'') := HT.out.looks S.is (fun w F hF => S.stands w p F s' hF)
        have HG5 : Hid (∀ w', Below w6.heap.size w6 w' → Calls Try.prog 20 #[Ob.ptr q] w' fun e w'' => e = .returned (.bool (Q22.leads s')) ∧ Below w'.heap.size w' w'') := HT.out.swap.looks rmsIs (fun w F hF => rms_leads w q F s' hF)
        have HRw : Hid (∀ w', Below w6.heap.size w6 w' → w'.cell? ⟨q, 0, none⟩ = some (.int .i64 s'.rank) ∧ w'.cell? ⟨q, 1, none⟩ = some (.int .i64 (s'.st : Int)) ∧ w'.cell? ⟨q, 2, none⟩ = some (.int .i64 s'.lead)) := fun w' hb => by
          obtain ⟨F, G, _, hg, _⟩ := HT.out.on S.is rmsIs hb
          exact ⟨hg.2.1.c 0 _ rfl, hg.2.1.c 1 _ rfl, hg.2.1.c 2 _ rfl⟩
        obtain ⟨b1, hb1⟩ : ∃ b1, Q22.leads s' = b1 := ⟨_, rfl⟩
        obtain ⟨b2, hb2⟩ : ∃ b2, decide (0 ≤ s'.rank) = b2 := ⟨_, rfl⟩
        rw [hb1] at HG3 HG5
        rw [hb2] at HG4
        clear hb1
        go_upto_region 21 with fail
        go_cut [96] from 18 to 96 (fun vb wx => vb = .bool false ∧ Hid (Below w6.heap.size w6 wx))
        case first =>
          cases b1 <;> cases b2
          all_goals
            refine Lw.wp_region_quiet_below (by kernel_rfl) (by kernel_rfl) ?_
            repeat (first
              | go_big_quiet_skip
              | (go_big_quiet_want; go_big_quiet_op; go_big_quiet_on)
              | (go_big_quiet_want; go_big_quiet_op; apply Exists.intro; refine ⟨fun _ hb' => ?_, ?_⟩; (first
                | exact Lw.val_rfl _
                | (go_at_call 17; exact Lw.calls_below hb' (HG1.out _ hb'))
                | (go_at_call 18; exact Lw.calls_below hb' (HG2.out _ hb'))
                | (go_at_call 19; exact Lw.calls_below hb' (HG3.out _ hb'))
                | (go_at_call 21; exact Lw.calls_below hb' (HG4.out _ hb'))
                | (go_at_call 20; exact Lw.calls_below hb' (HG5.out _ hb'))
                | (simp [go_sem, (HRw.out _ hb').1]; rfl)
                | (simp [go_sem, (HRw.out _ hb').2.1]; rfl)
                | (simp [go_sem, (HRw.out _ hb').2.2]; rfl)); go_big_quiet_on))
            refine wpQuiet_nil ?_
            intro wz hbz
            go_wp2_with fail
            go_meet
            case rel => exact ⟨by first | rfl | simp_all, hbz⟩
        case rest =>
          obtain ⟨rfl, hbz⟩ := hcut
          have HD : Hid (∃ s, Oq.O2 At RmsAt W wc p s q s []) := ⟨s', HT.out.on S.is rmsIs hbz.out⟩
          clear HT HG1 HG2 HG3 HG4 HG5 HRw hb2 hbz
          go_wp2_with fail
          go_roundw
          case rel => exact ⟨i + 1, by omega, rfl, HD⟩
          case measure => simp only [intOf]; omega
    · obtain rfl : i = len1 := by omega
      have ii : ¬ ((i : Int) < (i : Int)) := by omega
      obtain ⟨s, ho⟩ := HTs.out
      have HBz : Hid (Below W.heap.size W wr) := ho.bel
      clear HEl ho HTs
      go_wp2
      go_ret
      exact ⟨rfl, HBz.out⟩
end Go.Proofs.Ytimcjhnanjeloaa.masterPlays
