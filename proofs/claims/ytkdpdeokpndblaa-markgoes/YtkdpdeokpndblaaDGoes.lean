/- MarkGoes: time goes on within a cycle as the clock does; a start alone changes nothing of it; for every three times and every number; no condition. -/
import Derived.Test.YtkdpdeokpndblaaD2
import Derived.ProofKit
import Derived.OpenShut
namespace Go.Proofs.Ytkdpdeokpndblaa.markGoes
open Go.ChangeShapes Go.WideShapes Go.ChangeAt Go.RowKit
set_option linter.unusedVariables false
variable {At : Ob.A Mq.St}
set_option maxRecDepth 100000 in
set_option maxHeartbeats 2000000 in
theorem walkN (S : MarkSpec At) (a b c y : Nat) (ha : a < 65536) (hb : b < 65536) (hc : c < 65536) (hy : y < 256) (W : World) :
    Calls Try.prog 4 #[.int .u16 (a : Int), .int .u16 (b : Int), .int .u16 (c : Int), .int .u8 (y : Int)] W fun e w' => e = .returned (.bool true) ∧ Below W.heap.size W w' := by
  have hk := known10_any S W
  obtain ⟨K, hK⟩ : ∃ K : Nat, (y : Int) % 8 = (K : Int) := ⟨y % 8, by omega⟩
  have hK' : (y : Int).tmod 8 = (K : Int) := by rw [Int.tmod_eq_emod_of_nonneg (by omega)]; exact hK
  have k1 : K ≤ 7 := by omega
  obtain ⟨d, hd⟩ : ∃ d, (a + b) % 65536 = d := ⟨_, rfl⟩
  have e1 : IntKind.u16.wrap ((a : Int) + (b : Int)) = (d : Int) := by rw [IntKind.wrap_u16]; omega
  have hD : Ck.since a d = b := by rw [← hd]; unfold Ck.since; omega
  have hC : Ck.since c c = 0 := by unfold Ck.since; omega
  have dl : d < 65536 := by omega
  have HB1 : Hid (∀ w p F, At w p F ⟨some a, none⟩ → Ob.Turns Try.prog At 11 #[Ob.ptr p, .int .i64 (K : Int)] w p F ⟨some a, some (a, K)⟩ (.tuple #[])) := fun w p F h => by
    have := S.beat w p F _ (K : Int) (WalkArith.wf_i64 ⟨by omega, by omega⟩) h
    rw [show Mq.beat ⟨some a, none⟩ (K : Int) = ⟨some a, some (a, K)⟩ from by unfold Mq.beat; rw [Mq.hold_nat K k1]] at this
    exact this
  have HT1 : Hid (∀ w p F, At w p F ⟨some a, some (a, K)⟩ → Ob.Looks Try.prog 14 #[Ob.ptr p, .int .u16 (d : Int)] w (.tuple #[.int .i64 (b : Int), .bool true])) := fun w p F h => by
    have := S.tell w p F _ d dl h
    rw [show Mq.tell ⟨some a, some (a, K)⟩ d = b from hD] at this
    exact this
  have HT2 : Hid (∀ w p F, At w p F ⟨some c, some (a, K)⟩ → Ob.Looks Try.prog 14 #[Ob.ptr p, .int .u16 (d : Int)] w (.tuple #[.int .i64 (b : Int), .bool true])) := fun w p F h => by
    have := S.tell w p F _ d dl h
    rw [show Mq.tell ⟨some c, some (a, K)⟩ d = b from hD] at this
    exact this
  have HT3 : Hid (∀ w p F, At w p F ⟨some c, some (c, 0)⟩ → Ob.Looks Try.prog 14 #[Ob.ptr p, .int .u16 (c : Int)] w (.tuple #[.int .i64 0, .bool true])) := fun w p F h => by
    have := S.tell w p F _ c hc h
    rw [show Mq.tell ⟨some c, some (c, 0)⟩ c = 0 from hC] at this
    exact this
  have BA : Hid (a < 65536) := ha
  have BC : Hid (c < 65536) := hc
  have ai : (a : Int) < 65536 := by omega
  have bi : (b : Int) < 65536 := by omega
  have ci : (c : Int) < 65536 := by omega
  have yi : (y : Int) < 256 := by omega
  have ki : (K : Int) ≤ 7 := by omega
  clear ha hb hc hy hd hD hC dl hK k1
  go_enter Try.func4, Try.ntmps4
  go_wp2_with fail
  refine hk.mono ?_
  rintro e w1 ⟨rfl, hb1⟩
  have hA : Hid (Below W.heap.size W w1) := hb1
  clear hk hb1
  go_wp2_with fail
  refine (Ob.own_new (B := W.heap.size) (S.new _) hA.out.size).mono ?_
  rintro e w' ⟨p, rfl, O', hb'⟩
  replace hA : Hid (Below W.heap.size W w') := hA.out.trans hb'
  have OB : Hid (Ob.Own At W.heap.size w' p (Mq.no)) := O'
  clear O' hb'
  go_wp2_with fail
  refine (Ob.own_turn (fun F h => S.start _ _ F _ a BA.out h) OB.out hA.out.size).mono ?_
  rintro e w' ⟨rfl, O', hb'⟩
  replace hA : Hid (Below W.heap.size W w') := hA.out.trans hb'
  replace OB : Hid (Ob.Own At W.heap.size w' _ (⟨some a, none⟩)) := O'
  clear O' hb'
  go_wp2_with fail
  refine (Ob.own_turn (fun F h => HB1.out _ _ F h) OB.out hA.out.size).mono ?_
  rintro e w' ⟨rfl, O', hb'⟩
  replace hA : Hid (Below W.heap.size W w') := hA.out.trans hb'
  replace OB : Hid (Ob.Own At W.heap.size w' _ (⟨some a, some (a, K)⟩)) := O'
  clear O' hb'
  go_wp2_with fail
  refine (Ob.own_look S.is (fun F h => HT1.out _ _ F h) OB.out hA.out.size).mono ?_
  rintro e w' ⟨rfl, O', hb'⟩
  replace hA : Hid (Below W.heap.size W w') := hA.out.trans hb'
  replace OB : Hid (Ob.Own At W.heap.size w' _ _) := O'
  clear O' hb'
  go_wp2_with fail
  refine (Ob.own_turn (fun F h => S.start _ _ F _ c BC.out h) OB.out hA.out.size).mono ?_
  rintro e w' ⟨rfl, O', hb'⟩
  replace hA : Hid (Below W.heap.size W w') := hA.out.trans hb'
  replace OB : Hid (Ob.Own At W.heap.size w' _ (⟨some c, some (a, K)⟩)) := O'
  clear O' hb'
  go_wp2_with fail
  refine (Ob.own_look S.is (fun F h => HT2.out _ _ F h) OB.out hA.out.size).mono ?_
  rintro e w' ⟨rfl, O', hb'⟩
  replace hA : Hid (Below W.heap.size W w') := hA.out.trans hb'
  replace OB : Hid (Ob.Own At W.heap.size w' _ _) := O'
  clear O' hb'
  go_wp2_with fail
  refine (Ob.own_turn (fun F h => S.beat _ _ F _ 0 rfl h) OB.out hA.out.size).mono ?_
  rintro e w' ⟨rfl, O', hb'⟩
  replace hA : Hid (Below W.heap.size W w') := hA.out.trans hb'
  replace OB : Hid (Ob.Own At W.heap.size w' _ (⟨some c, some (c, 0)⟩)) := O'
  clear O' hb'
  go_wp2_with fail
  refine (Ob.own_look S.is (fun F h => HT3.out _ _ F h) OB.out hA.out.size).mono ?_
  rintro e w' ⟨rfl, O', hb'⟩
  replace hA : Hid (Below W.heap.size W w') := hA.out.trans hb'
  replace OB : Hid (Ob.Own At W.heap.size w' _ _) := O'
  clear O' hb'
  go_wp2_with fail
  refine (Ob.own_look (v := .int .i64 0) S.is (fun F h => S.cycle _ _ F _ h) OB.out hA.out.size).mono ?_
  rintro e w' ⟨rfl, O', hb'⟩
  replace hA : Hid (Below W.heap.size W w') := hA.out.trans hb'
  replace OB : Hid (Ob.Own At W.heap.size w' _ _) := O'
  clear O' hb'
  go_wp2
  go_ret
  exact ⟨rfl, hA.out⟩
theorem walkA (S : MarkSpec At) (a0 : Int) (w0 : (Lit.int .u16 a0).wf = true) (a1 : Int) (w1 : (Lit.int .u16 a1).wf = true) (a2 : Int) (w2 : (Lit.int .u16 a2).wf = true) (a3 : Int) (w3 : (Lit.int .u8 a3).wf = true) (W : World) :
    Calls Try.prog 4 #[.int .u16 a0, .int .u16 a1, .int .u16 a2, .int .u8 a3] W fun e w' => e = .returned (.bool true) ∧ Below W.heap.size W w' := by
  obtain ⟨h1, h2⟩ := bounds_u16 w0
  obtain ⟨h3, h4⟩ := bounds_u16 w1
  obtain ⟨h5, h6⟩ := bounds_u16 w2
  obtain ⟨h7, h8⟩ := bounds_u8 w3
  obtain ⟨a, rfl⟩ := Int.eq_ofNat_of_zero_le h1
  obtain ⟨b, rfl⟩ := Int.eq_ofNat_of_zero_le h3
  obtain ⟨c, rfl⟩ := Int.eq_ofNat_of_zero_le h5
  obtain ⟨y, rfl⟩ := Int.eq_ofNat_of_zero_le h7
  exact walkN S a b c y (by omega) (by omega) (by omega) (by omega) W
end Go.Proofs.Ytkdpdeokpndblaa.markGoes
