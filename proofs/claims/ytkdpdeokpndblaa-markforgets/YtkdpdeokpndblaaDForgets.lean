/- MarkForgets: forgotten there is no time within a cycle, nor a start for the next beat; for every three times and every number; no condition. -/
import Derived.Test.YtkdpdeokpndblaaD2
import Derived.ProofKit
import Derived.OpenShut
namespace Go.Proofs.Ytkdpdeokpndblaa.markForgets
open Go.ChangeShapes Go.WideShapes Go.ChangeAt Go.RowKit
set_option linter.unusedVariables false
variable {At : Ob.A Mq.St}
set_option maxRecDepth 100000 in
set_option maxHeartbeats 2000000 in
theorem walkN (S : MarkSpec At) (a b : Nat) (y : Int) (t : Nat) (ha : a < 65536) (hb : b < 65536) (wy : (Lit.int .i64 y).wf = true) (ht : t < 65536) (W : World) :
    Calls Try.prog 5 #[.int .u16 (a : Int), .int .u16 (b : Int), .int .i64 y, .int .u16 (t : Int)] W fun e w' => e = .returned (.bool true) ∧ Below W.heap.size W w' := by
  have hk := known10_any S W
  obtain ⟨n0, hn0⟩ : ∃ n0 : Int, min y 7 = n0 := ⟨_, rfl⟩
  obtain ⟨K, hK⟩ : ∃ K, Mq.hold y = K := ⟨_, rfl⟩
  have hm0 : max 0 n0 = (K : Int) := by rw [← hK]; unfold Mq.hold; omega
  have HK : Hid (Mq.beat ⟨some a, none⟩ y = ⟨some a, some (a, K)⟩) := by show _ = _; unfold Mq.beat; rw [hK]
  obtain ⟨d, hd⟩ : ∃ d, Ck.since b t = d := ⟨_, rfl⟩
  have e1 : IntKind.u16.wrap ((t : Int) - (b : Int)) = (d : Int) := by rw [IntKind.wrap_u16, ← hd]; unfold Ck.since; omega
  have dl : (d : Int) < 65536 := by rw [← hd]; unfold Ck.since; omega
  have HB1 : Hid (∀ w p F, At w p F ⟨some a, none⟩ → Ob.Turns Try.prog At 11 #[Ob.ptr p, .int .i64 y] w p F ⟨some a, some (a, K)⟩ (.tuple #[])) := fun w p F h => by
    have := S.beat w p F _ y wy h
    rw [HK.out] at this
    exact this
  have HC1 : Hid (∀ w p F, At w p F ⟨some a, some (a, K)⟩ → Ob.Looks Try.prog 18 #[Ob.ptr p] w (.int .i64 (K : Int))) := fun w p F h => S.cycle w p F _ h
  have HT0 : Hid (∀ w p F (s : Option Nat), At w p F ⟨s, none⟩ → Ob.Looks Try.prog 14 #[Ob.ptr p, .int .u16 (t : Int)] w (.tuple #[.int .i64 0, .bool false])) := fun w p F s h => S.tell w p F _ t ht h
  have HT1 : Hid (∀ w p F, At w p F ⟨some b, some (b, 2)⟩ → Ob.Looks Try.prog 14 #[Ob.ptr p, .int .u16 (t : Int)] w (.tuple #[.int .i64 (d : Int), .bool true])) := fun w p F h => by
    have := S.tell w p F _ t ht h
    rw [show Mq.tell ⟨some b, some (b, 2)⟩ t = d from hd] at this
    exact this
  have BA : Hid (a < 65536) := ha
  have BB : Hid (b < 65536) := hb
  have ai : (a : Int) < 65536 := by omega
  have bi : (b : Int) < 65536 := by omega
  have ti : (t : Int) < 65536 := by omega
  clear ha hb ht hd hK wy HK
  go_enter Try.func5, Try.ntmps5
  go_wp2_with fail
  refine hk.mono ?_
  rintro e w1 ⟨rfl, hb1⟩
  have hA : Hid (Below W.heap.size W w1) := hb1
  clear hk hb1
  go_wp2_with fail
  refine (Ob.own_new (B := W.heap.size) (S.new _) hA.out.size).mono ?_
  rintro e w' ⟨p, rfl, O', hb'⟩
  replace hA : Hid (Below W.heap.size W w') := hA.out.trans hb'
  have OB : Hid (Ob.Own At W.heap.size w' p (Mq.no)) := O'
  clear O' hb'
  go_wp2_with fail
  refine (Ob.own_turn (fun F h => S.start _ _ F _ a BA.out h) OB.out hA.out.size).mono ?_
  rintro e w' ⟨rfl, O', hb'⟩
  replace hA : Hid (Below W.heap.size W w') := hA.out.trans hb'
  replace OB : Hid (Ob.Own At W.heap.size w' _ (⟨some a, none⟩)) := O'
  clear O' hb'
  go_wp2_with fail
  refine (Ob.own_turn (fun F h => HB1.out _ _ F h) OB.out hA.out.size).mono ?_
  rintro e w' ⟨rfl, O', hb'⟩
  replace hA : Hid (Below W.heap.size W w') := hA.out.trans hb'
  replace OB : Hid (Ob.Own At W.heap.size w' _ (⟨some a, some (a, K)⟩)) := O'
  clear O' hb'
  go_wp2_with fail
  refine (Ob.own_look S.is (fun F h => HC1.out _ _ F h) OB.out hA.out.size).mono ?_
  rintro e w' ⟨rfl, O', hb'⟩
  replace hA : Hid (Below W.heap.size W w') := hA.out.trans hb'
  replace OB : Hid (Ob.Own At W.heap.size w' _ _) := O'
  clear O' hb'
  go_wp2_with fail
  refine (Ob.own_turn (fun F h => S.forget _ _ F _ h) OB.out hA.out.size).mono ?_
  rintro e w' ⟨rfl, O', hb'⟩
  replace hA : Hid (Below W.heap.size W w') := hA.out.trans hb'
  replace OB : Hid (Ob.Own At W.heap.size w' _ (⟨none, none⟩)) := O'
  clear O' hb'
  go_wp2_with fail
  refine (Ob.own_look S.is (fun F h => HT0.out _ _ F none h) OB.out hA.out.size).mono ?_
  rintro e w' ⟨rfl, O', hb'⟩
  replace hA : Hid (Below W.heap.size W w') := hA.out.trans hb'
  replace OB : Hid (Ob.Own At W.heap.size w' _ _) := O'
  clear O' hb'
  go_wp2_with fail
  refine (Ob.own_turn (fun F h => S.beat _ _ F _ 1 rfl h) OB.out hA.out.size).mono ?_
  rintro e w' ⟨rfl, O', hb'⟩
  replace hA : Hid (Below W.heap.size W w') := hA.out.trans hb'
  replace OB : Hid (Ob.Own At W.heap.size w' _ (⟨none, none⟩)) := O'
  clear O' hb'
  go_wp2_with fail
  refine (Ob.own_look S.is (fun F h => HT0.out _ _ F none h) OB.out hA.out.size).mono ?_
  rintro e w' ⟨rfl, O', hb'⟩
  replace hA : Hid (Below W.heap.size W w') := hA.out.trans hb'
  replace OB : Hid (Ob.Own At W.heap.size w' _ _) := O'
  clear O' hb'
  go_wp2_with fail
  refine (Ob.own_turn (fun F h => S.start _ _ F _ b BB.out h) OB.out hA.out.size).mono ?_
  rintro e w' ⟨rfl, O', hb'⟩
  replace hA : Hid (Below W.heap.size W w') := hA.out.trans hb'
  replace OB : Hid (Ob.Own At W.heap.size w' _ (⟨some b, none⟩)) := O'
  clear O' hb'
  go_wp2_with fail
  refine (Ob.own_look S.is (fun F h => HT0.out _ _ F (some b) h) OB.out hA.out.size).mono ?_
  rintro e w' ⟨rfl, O', hb'⟩
  replace hA : Hid (Below W.heap.size W w') := hA.out.trans hb'
  replace OB : Hid (Ob.Own At W.heap.size w' _ _) := O'
  clear O' hb'
  go_wp2_with fail
  refine (Ob.own_turn (fun F h => S.beat _ _ F _ 2 rfl h) OB.out hA.out.size).mono ?_
  rintro e w' ⟨rfl, O', hb'⟩
  replace hA : Hid (Below W.heap.size W w') := hA.out.trans hb'
  replace OB : Hid (Ob.Own At W.heap.size w' _ (⟨some b, some (b, 2)⟩)) := O'
  clear O' hb'
  go_wp2_with fail
  refine (Ob.own_look S.is (fun F h => HT1.out _ _ F h) OB.out hA.out.size).mono ?_
  rintro e w' ⟨rfl, O', hb'⟩
  replace hA : Hid (Below W.heap.size W w') := hA.out.trans hb'
  replace OB : Hid (Ob.Own At W.heap.size w' _ _) := O'
  clear O' hb'
  go_wp2_with fail
  refine (Ob.own_look (v := .int .i64 2) S.is (fun F h => S.cycle _ _ F _ h) OB.out hA.out.size).mono ?_
  rintro e w' ⟨rfl, O', hb'⟩
  replace hA : Hid (Below W.heap.size W w') := hA.out.trans hb'
  replace OB : Hid (Ob.Own At W.heap.size w' _ _) := O'
  clear O' hb'
  go_wp2
  go_ret
  exact ⟨rfl, hA.out⟩
theorem walkA (S : MarkSpec At) (a0 : Int) (w0 : (Lit.int .u16 a0).wf = true) (a1 : Int) (w1 : (Lit.int .u16 a1).wf = true) (a2 : Int) (w2 : (Lit.int .i64 a2).wf = true) (a3 : Int) (w3 : (Lit.int .u16 a3).wf = true) (W : World) :
    Calls Try.prog 5 #[.int .u16 a0, .int .u16 a1, .int .i64 a2, .int .u16 a3] W fun e w' => e = .returned (.bool true) ∧ Below W.heap.size W w' := by
  obtain ⟨h1, h2⟩ := bounds_u16 w0
  obtain ⟨h3, h4⟩ := bounds_u16 w1
  obtain ⟨h5, h6⟩ := bounds_u16 w3
  obtain ⟨a, rfl⟩ := Int.eq_ofNat_of_zero_le h1
  obtain ⟨b, rfl⟩ := Int.eq_ofNat_of_zero_le h3
  obtain ⟨t, rfl⟩ := Int.eq_ofNat_of_zero_le h5
  exact walkN S a b a2 t (by omega) (by omega) w2 (by omega) W
end Go.Proofs.Ytkdpdeokpndblaa.markForgets
