/- MasterNever: of every rank below 0 and slice of at most sixty bytes (others are let by): who has no rank never leads nor stands, whatever it hears; no condition. -/
import Derived.Test.YtimcjhnanjeloaaB22
import Derived.Test.YtimcjhnanjeloaaC22
import Derived.ProofKit
import Derived.OpenShut
import Derived.Deep.CutBlock
namespace Go.Proofs.Ytimcjhnanjeloaa.masterNever
open Go.ChangeShapes Go.WideShapes Go.ChangeAt Go.RowKit
set_option linter.unusedVariables false
variable {At : Ob.A Q22.St}
set_option maxRecDepth 100000 in
set_option maxHeartbeats 8000000 in
theorem walkA (S : MasterSpec At) (a0 : Int) (w0 : (Lit.int .i64 a0).wf = true) (s1 : Option Addr) (len1 cap1 : Nat) (B : Nat → Nat) (W : World) (hin : IsU19 W s1 len1 B) : Calls Try.prog 5 #[.int .i64 a0, .slice s1 len1 cap1] W fun e w' => e = .returned (.bool true) ∧ Below W.heap.size W w' := by
  go_enter Try.func5, Try.ntmps5
  go_wp2_with fail
  refine (known22_any S _).mono ?_
  rintro e w1 ⟨rfl, hb⟩
  have HB : Hid (Below W.heap.size W w1) := hb
  clear hb
  by_cases hr0 : 0 ≤ a0
  · have d0 : decide (0 ≤ a0) = true := decide_eq_true hr0
    clear hin hr0
    go_wp2
    go_ret
    exact ⟨rfl, HB.out⟩
  have d0 : decide (0 ≤ a0) = false := decide_eq_false hr0
  by_cases h60 : 60 < len1
  · have h60i : (60 : Int) < (len1 : Int) := by omega
    have d1 : decide ((60 : Int) < (len1 : Int)) = true := decide_eq_true h60i
    clear hin hr0 h60 h60i
    go_wp2
    go_ret
    exact ⟨rfl, HB.out⟩
  have h60i : ¬ ((60 : Int) < (len1 : Int)) := by omega
  have d1 : decide ((60 : Int) < (len1 : Int)) = false := decide_eq_false h60i
  have HEl : Hid (∀ i, i < len1 → ∃ b off, s1 = some ⟨b, off, none⟩ ∧ (∀ w', Below W.heap.size W w' → w'.cell? ⟨b, off + i, none⟩ = some (.int .u8 (B i : Int))) ∧ B i < 256) := fun i hi => by
    obtain ⟨b, off, hs, hc, hB⟩ := hin i hi
    exact ⟨b, off, hs, fun w' hbl => (hbl.cell (p := ⟨b, off + i, none⟩) (block_lt_of_cell hc)).trans hc, hB⟩
  clear hin
  have HN : Hid (len1 ≤ 60 ∧ (Q22.mk a0).rank < 0) := ⟨by omega, by show max (-1) a0 < 0; omega⟩
  clear hr0 h60i h60
  go_wp2_with fail
  refine (Oq.O1.make (S.new w1 a0 w0) HB.out).mono ?_
  rintro e w2 ⟨p, rfl, hq⟩
  have HO : Hid (∃ s, Q22.St.rank s < 0 ∧ Oq.O1 At W w2 p s []) := ⟨_, HN.out.2, hq⟩
  clear hq HB d0 d1
  go_wp2_with fail
  go_loopw [6] (fun vi wr => ∃ i : Nat, i ≤ len1 ∧ vi = .int .i64 (i : Int) ∧ Hid (∃ s, Q22.St.rank s < 0 ∧ Oq.O1 At W wr p s [])) (fun vi _ => len1 - (intOf vi).toNat)
  case atStart => exact ⟨0, Nat.zero_le _, rfl, HO⟩
  case round =>
    clear HO
    obtain ⟨i, hi, rfl, HOs⟩ := hrel
    by_cases hil : i < len1
    · obtain ⟨b, off, rfl, hc, hB⟩ := HEl.out i hil
      have ii : (i : Int) < (len1 : Int) := by omega
      have ib : (i : Int) < 1000 := by have := HN.out.1; omega
      obtain ⟨s, hs, ho⟩ := HOs.out
      have HO : Hid (Oq.O1 At W wr p s []) := ho
      have HS : Hid (s.rank < 0) := hs
      have c0 := hc wr ho.bel
      clear hc ho HOs hs
      generalize B i = x at c0 hB
      obtain ⟨r, hr⟩ : ∃ r, x % 4 = r := ⟨_, rfl⟩
      have er : (x : Int) % 4 = (r : Int) := by omega
      have tr : (x : Int).tmod 4 = (r : Int) := by rw [Int.tmod_eq_emod_of_nonneg (by omega)]; exact er
      obtain ⟨y, hy⟩ : ∃ y, x / 4 % 4 = y := ⟨_, rfl⟩
      have ey : (x : Int) / 4 % 4 = (y : Int) := by omega
      have hr4 : r = 0 ∨ r = 1 ∨ (r ≠ 0 ∧ r ≠ 1) := by omega
      have HYw : Hid ((Lit.int .i64 (y : Int)).wf = true) := wf22 (by omega)
      have y4 : (y : Int) < 4 := by omega
      clear hr hy
      have xb : (x : Int) ≤ 255 := by omega
      go_upto_block 2 with fail
      go_cut [] from 18 to 51 (fun wx => ∃ s, Q22.St.rank s < 0 ∧ Oq.O1 At W wx p s [])
      case first =>
        rcases hr4 with rfl | rfl | ⟨r0, r1⟩
        · go_wp2_with fail
          refine (HO.out.turn (fun F hF => S.sent _ p F _ hF)).mono ?_
          rintro e w3 ⟨rfl, hq⟩
          have HD : Hid (∃ s, Q22.St.rank s < 0 ∧ Oq.O1 At W w3 p s []) := ⟨_, by rw [Q22.rank_sent]; exact HS.out, hq⟩
          clear hq HO HS c0
          go_wp2_with fail
          go_meet
          case rel => exact HD.out
        · go_wp2_with fail
          refine (HO.out.turn (fun F hF => S.watch _ p F _ hF)).mono ?_
          rintro e w3 ⟨rfl, hq⟩
          have HD : Hid (∃ s, Q22.St.rank s < 0 ∧ Oq.O1 At W w3 p s []) := ⟨_, by rw [Q22.rank_watch]; exact HS.out, hq⟩
          clear hq HO HS c0
          go_wp2_with fail
          go_meet
          case rel => exact HD.out
        · have r0b : ((r : Int) == 0) = false := beq_eq_false_iff_ne.2 (by omega)
          have r1b : ((r : Int) == 1) = false := beq_eq_false_iff_ne.2 (by omega)
          clear r0 r1
          go_wp2_with fail
          refine (HO.out.turn (fun F hF => S.beat _ p F _ (y : Int) HYw.out hF)).mono ?_
          rintro e w3 ⟨rfl, hq⟩
          have HD : Hid (∃ s, Q22.St.rank s < 0 ∧ Oq.O1 At W w3 p s []) := ⟨Q22.beat s (y : Int), HS.out, hq⟩
          clear hq HO HS c0
          go_wp2_with fail
          go_meet
          case rel => exact HD.out
      case rest =>
        clear HO HS c0 hr4
        obtain ⟨s, hs, ho⟩ := hcut
        have HO : Hid (Oq.O1 At W wc p s []) := ho
        have HS : Hid (s.rank < 0) := hs
        clear hs ho
        go_wp2_with fail
        refine (HO.out.look S.is (fun F hF => S.leads _ p F _ hF)).mono ?_
        rintro e w4 ⟨rfl, hq⟩
        rw [(Q22.never HS.out).1]
        replace HO : Hid (Oq.O1 At W w4 p s []) := hq
        clear hq
        go_wp2_with fail
        refine (HO.out.look S.is (fun F hF => S.stands _ p F _ hF)).mono ?_
        rintro e w5 ⟨rfl, hq⟩
        rw [(Q22.never HS.out).2]
        have HD : Hid (∃ s, Q22.St.rank s < 0 ∧ Oq.O1 At W w5 p s []) := ⟨s, HS.out, hq⟩
        clear hq HO HS
        go_wp2_with fail
        go_roundw
        case rel => exact ⟨i + 1, by omega, rfl, HD⟩
        case measure => simp only [intOf]; omega
    · obtain rfl : i = len1 := by omega
      have ii : ¬ ((i : Int) < (i : Int)) := by omega
      obtain ⟨s, hs, ho⟩ := HOs.out
      have HBz : Hid (Below W.heap.size W wr) := ho.bel
      clear HEl ho HOs
      go_wp2
      go_ret
      exact ⟨rfl, HBz.out⟩
end Go.Proofs.Ytimcjhnanjeloaa.masterNever
