/- GlobalRates: who counts as many units as the beats tell keeps its rate; who counts more gets longer ones; for every two beats and every rate from 1 to 65536; no condition. -/
import Derived.Test.YtpdeimnjmhgdgaaA2
import Derived.ProofKit
import Derived.OpenShut
namespace Go.Proofs.Ytpdeimnjmhgdgaa.globalRates
open Go.ChangeShapes Go.WideShapes Go.ChangeAt Go.RowKit
set_option linter.unusedVariables false
variable {At : Ob.A Gq.St}
set_option maxRecDepth 100000 in
set_option maxHeartbeats 2000000 in
theorem walkN (S : GlobalSpec At) (g m l : Nat) (e : Int) (num : Nat) (hg : g < 65536) (hm : m < 65536) (hl : l < 65536) (he : -128 ≤ e) (he2 : e ≤ 127) (hn : num < 65536) (W : World) :
    Calls Try.prog 5 #[.int .u16 (g : Int), .int .u16 (m : Int), .int .u16 (l : Int), .int .i8 e, .int .u16 (num : Int)] W fun e w' => e = .returned (.bool true) ∧ Below W.heap.size W w' := by
  have hk := known11_any S W
  obtain ⟨L, hL⟩ : ∃ L : Nat, (l : Int) % 5000 = (L : Int) := ⟨l % 5000, by omega⟩
  have hL' : (l : Int).tmod 5000 = (L : Int) := by rw [Int.tmod_eq_emod_of_nonneg (by omega)]; exact hL
  have l1 : L < 5000 := by omega
  obtain ⟨K, hK⟩ : ∃ K : Nat, (L : Int) + 200 + e = (K : Int) := ⟨((L : Int) + 200 + e).toNat, by omega⟩
  have k0 : 0 < K := by omega
  have k1 : K < 5400 := by omega
  obtain ⟨g2, hg2⟩ : ∃ x, (g + (L + 200)) % 65536 = x := ⟨_, rfl⟩
  obtain ⟨m2, hm2⟩ : ∃ x, (m + K) % 65536 = x := ⟨_, rfl⟩
  obtain ⟨g5, hg5⟩ : ∃ x, (g + 5) % 65536 = x := ⟨_, rfl⟩
  obtain ⟨m5, hm5⟩ : ∃ x, (m + 5) % 65536 = x := ⟨_, rfl⟩
  have e1 : IntKind.u16.wrap ((L : Int) + 200) = (L : Int) + 200 := by rw [IntKind.wrap_u16]; omega
  have e2 : IntKind.u16.wrap (K : Int) = (K : Int) := by rw [IntKind.wrap_u16]; omega
  have e3 : IntKind.u16.wrap ((g : Int) + ((L : Int) + 200)) = (g2 : Int) := by rw [IntKind.wrap_u16]; omega
  have e4 : IntKind.u16.wrap ((m : Int) + (K : Int)) = (m2 : Int) := by rw [IntKind.wrap_u16]; omega
  have e5 : IntKind.u16.wrap ((g : Int) + 5) = (g5 : Int) := by rw [IntKind.wrap_u16]; omega
  have e6 : IntKind.u16.wrap ((m : Int) + 5) = (m5 : Int) := by rw [IntKind.wrap_u16]; omega
  obtain ⟨R, hR⟩ : ∃ R, num + 1 = R := ⟨_, rfl⟩
  obtain ⟨T, hT⟩ : ∃ T, R * K = T := ⟨_, rfl⟩
  have t1 : T ≤ 400000000 := by rw [← hT]; exact Nat.le_trans (Nat.mul_le_mul (by omega : R ≤ 65536) (by omega : K ≤ 5400)) (by decide)
  obtain ⟨v, hv⟩ : ∃ v, T / (L + 200) = v := ⟨_, rfl⟩
  have v1 : v ≤ 400000000 := by rw [← hv]; exact Nat.le_trans (Nat.div_le_self _ _) t1
  have f1 : (R : Int) * (K : Int) = (T : Int) := by rw [← hT]; simp
  have f2 : (T : Int).tdiv ((L : Int) + 200) = (v : Int) := by rw [Int.tdiv_eq_ediv_of_nonneg (by omega), ← hv]; simp
  have q0 : e = 0 → v = R := fun h => by
    have : K = L + 200 := by omega
    rw [← hv, ← hT, this]
    exact Nat.mul_div_cancel _ (by omega)
  have q1 : 0 ≤ e → R ≤ v := fun h => by
    rw [← hv, ← hT, Nat.le_div_iff_mul_le (by omega)]
    exact Nat.mul_le_mul_left _ (by omega)
  have q2 : e ≤ 0 → v ≤ R := fun h => by
    rw [← hv, ← hT]
    exact Nat.div_le_of_le_mul (by rw [Nat.mul_comm]; exact Nat.mul_le_mul_right _ (by omega))
  have HB1 : Hid (∀ w p F, At w p F .no → Ob.Turns Try.prog At 11 #[Ob.ptr p, .int .i64 1, .int .u16 (g : Int), .int .u16 (m : Int), .bool false] w p F (.one ⟨1, g, m⟩) (.tuple #[])) := fun w p F h => S.beat w p F _ 1 g m false rfl hg hm h
  have HB2 : Hid (∀ w p F, At w p F (.one ⟨1, g, m⟩) → Ob.Turns Try.prog At 11 #[Ob.ptr p, .int .i64 1, .int .u16 (g2 : Int), .int .u16 (m2 : Int), .bool false] w p F (.more ⟨1, g2, m2⟩ g m 2) (.tuple #[])) := fun w p F h => S.beat w p F _ 1 g2 m2 false rfl (by omega) (by omega) h
  have HB3 : Hid (∀ w p F, At w p F (.one ⟨1, g, m⟩) → Ob.Turns Try.prog At 11 #[Ob.ptr p, .int .i64 2, .int .u16 (g5 : Int), .int .u16 (m5 : Int), .bool false] w p F (.one ⟨2, g5, m5⟩) (.tuple #[])) := fun w p F h => S.beat w p F _ 2 g5 m5 false rfl (by omega) (by omega) h
  have HR1 : Hid (∀ w p F, At w p F (.more ⟨1, g2, m2⟩ g m 2) → Ob.Looks Try.prog 16 #[Ob.ptr p, .int .i64 (R : Int)] w (.tuple #[.int .i64 (v : Int), .bool true])) := fun w p F h => by
    have ha : Gq.la (.more ⟨1, g2, m2⟩ g m 2) = L + 200 := by show Ck.since g g2 = _; unfold Ck.since; omega
    have hb : Gq.lb (.more ⟨1, g2, m2⟩ g m 2) = K := by show Ck.since m m2 = _; unfold Ck.since; omega
    have hc : Gq.can (.more ⟨1, g2, m2⟩ g m 2) (R : Int) = true := by unfold Gq.can; rw [ha, hb]; exact decide_eq_true ⟨by omega, by omega, by omega, by omega⟩
    have := S.rate w p F _ (R : Int) (WalkArith.wf_i64 ⟨by omega, by omega⟩) h
    unfold Gq.rate at this
    rw [hc, if_pos rfl, ha, hb, f1] at this
    rw [show (((L + 200 : Nat) : Int)) = (L : Int) + 200 by omega, f2] at this
    exact this
  have HR2 : Hid (∀ w p F, At w p F (.one ⟨2, g5, m5⟩) → Ob.Looks Try.prog 16 #[Ob.ptr p, .int .i64 (R : Int)] w (.tuple #[.int .i64 (R : Int), .bool false])) := fun w p F h => S.rate w p F _ (R : Int) (WalkArith.wf_i64 ⟨by omega, by omega⟩) h
  have r1 : (num : Int) + 1 = (R : Int) := by omega
  have r2 : R ≤ 65536 := by omega
  clear hg hm hl hn hL hg2 hm2 hg5 hm5 hR hT hv
  have HQ : Hid ((e = 0 → v = R) ∧ (0 ≤ e → R ≤ v) ∧ (e ≤ 0 → v ≤ R)) := ⟨q0, q1, q2⟩
  clear q0 q1 q2
  go_enter Try.func5, Try.ntmps5
  go_wp2_with fail
  refine hk.mono ?_
  rintro e w1 ⟨rfl, hb1⟩
  have hA : Hid (Below W.heap.size W w1) := hb1
  clear hk hb1
  go_wp2_with fail
  refine (Ob.own_new (B := W.heap.size) (S.new _) hA.out.size).mono ?_
  rintro e w' ⟨p, rfl, O', hb'⟩
  replace hA : Hid (Below W.heap.size W w') := hA.out.trans hb'
  have OB : Hid (Ob.Own At W.heap.size w' p (.no)) := O'
  clear O' hb'
  go_wp2_with fail
  refine (Ob.own_turn (fun F h => HB1.out _ _ F h) OB.out hA.out.size).mono ?_
  rintro e w' ⟨rfl, O', hb'⟩
  replace hA : Hid (Below W.heap.size W w') := hA.out.trans hb'
  replace OB : Hid (Ob.Own At W.heap.size w' _ (.one ⟨1, g, m⟩)) := O'
  clear O' hb'
  go_wp2_with fail
  refine (Ob.own_turn (fun F h => HB2.out _ _ F h) OB.out hA.out.size).mono ?_
  rintro e w' ⟨rfl, O', hb'⟩
  replace hA : Hid (Below W.heap.size W w') := hA.out.trans hb'
  replace OB : Hid (Ob.Own At W.heap.size w' _ (.more ⟨1, g2, m2⟩ g m 2)) := O'
  clear O' hb'
  go_wp2_with fail
  refine (Ob.own_look S.is (fun F h => HR1.out _ _ F h) OB.out hA.out.size).mono ?_
  rintro e w' ⟨rfl, O', hb'⟩
  replace hA : Hid (Below W.heap.size W w') := hA.out.trans hb'
  replace OB : Hid (Ob.Own At W.heap.size w' _ _) := O'
  clear O' hb'
  clear OB
  go_wp2_with fail
  refine (Ob.own_new (B := W.heap.size) (S.new _) hA.out.size).mono ?_
  rintro e w' ⟨p, rfl, O', hb'⟩
  replace hA : Hid (Below W.heap.size W w') := hA.out.trans hb'
  have OB : Hid (Ob.Own At W.heap.size w' p (.no)) := O'
  clear O' hb'
  go_wp2_with fail
  refine (Ob.own_turn (fun F h => HB1.out _ _ F h) OB.out hA.out.size).mono ?_
  rintro e w' ⟨rfl, O', hb'⟩
  replace hA : Hid (Below W.heap.size W w') := hA.out.trans hb'
  replace OB : Hid (Ob.Own At W.heap.size w' _ (.one ⟨1, g, m⟩)) := O'
  clear O' hb'
  go_wp2_with fail
  refine (Ob.own_turn (fun F h => HB3.out _ _ F h) OB.out hA.out.size).mono ?_
  rintro e w' ⟨rfl, O', hb'⟩
  replace hA : Hid (Below W.heap.size W w') := hA.out.trans hb'
  replace OB : Hid (Ob.Own At W.heap.size w' _ (.one ⟨2, g5, m5⟩)) := O'
  clear O' hb'
  go_wp2_with fail
  refine (Ob.own_look S.is (fun F h => HR2.out _ _ F h) OB.out hA.out.size).mono ?_
  rintro e w' ⟨rfl, O', hb'⟩
  replace hA : Hid (Below W.heap.size W w') := hA.out.trans hb'
  replace OB : Hid (Ob.Own At W.heap.size w' _ _) := O'
  clear O' hb'
  clear OB HB1 HB2 HB3 HR1 HR2
  obtain ⟨q0, q1, q2⟩ := HQ.out
  go_wp2
  all_goals
    go_ret
    refine ⟨?_, hA.out⟩
    first
      | rfl
      | (simp; omega)
      | (simp; done)
theorem walkA (S : GlobalSpec At) (a0 : Int) (w0 : (Lit.int .u16 a0).wf = true) (a1 : Int) (w1 : (Lit.int .u16 a1).wf = true) (a2 : Int) (w2 : (Lit.int .u16 a2).wf = true) (a3 : Int) (w3 : (Lit.int .i8 a3).wf = true) (a4 : Int) (w4 : (Lit.int .u16 a4).wf = true) (W : World) :
    Calls Try.prog 5 #[.int .u16 a0, .int .u16 a1, .int .u16 a2, .int .i8 a3, .int .u16 a4] W fun e w' => e = .returned (.bool true) ∧ Below W.heap.size W w' := by
  obtain ⟨h1, h2⟩ := bounds_u16 w0
  obtain ⟨h3, h4⟩ := bounds_u16 w1
  obtain ⟨h5, h6⟩ := bounds_u16 w2
  obtain ⟨h7, h8⟩ := bounds_i8 w3
  obtain ⟨h9, h10⟩ := bounds_u16 w4
  obtain ⟨a, rfl⟩ := Int.eq_ofNat_of_zero_le h1
  obtain ⟨b, rfl⟩ := Int.eq_ofNat_of_zero_le h3
  obtain ⟨c, rfl⟩ := Int.eq_ofNat_of_zero_le h5
  obtain ⟨d, rfl⟩ := Int.eq_ofNat_of_zero_le h9
  exact walkN S a b c a3 d (by omega) (by omega) (by omega) (by omega) (by omega) (by omega) W
end Go.Proofs.Ytpdeimnjmhgdgaa.globalRates
