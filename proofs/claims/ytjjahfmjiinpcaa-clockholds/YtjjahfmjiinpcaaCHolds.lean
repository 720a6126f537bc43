/- ClockHolds: units and ticks beyond their bounds are held, for every two integers; no condition. -/
import Derived.Test.YtjjahfmjiinpcaaC2
import Derived.ProofKit
import Derived.OpenShut
namespace Go.Proofs.Ytjjahfmjiinpcaa.clockHolds
open Go.ChangeShapes Go.WideShapes Go.ChangeAt Go.RowKit
set_option linter.unusedVariables false
variable {At : Ob.A Ck.St}
set_option maxRecDepth 100000 in
set_option maxHeartbeats 2000000 in
theorem walkA (S : ClockSpec At) (a0 : Int) (w0 : (Lit.int .i64 a0).wf = true) (a1 : Int) (w1 : (Lit.int .i64 a1).wf = true) (W : World) :
    Calls Try.prog 8 #[.int .i64 a0, .int .i64 a1] W fun e w' => e = .returned (.bool true) ∧ Below W.heap.size W w' := by
  have hk := known9_any S W
  have IsA := S.is
  have IsB := S.is
  obtain ⟨n0, hn0⟩ : ∃ n0 : Int, min a0 64 = n0 := ⟨_, rfl⟩
  obtain ⟨n1, hn1⟩ : ∃ n1 : Int, min a1 8 = n1 := ⟨_, rfl⟩
  obtain ⟨m0, hm0⟩ : ∃ m0 : Int, max 1 n0 = m0 := ⟨_, rfl⟩
  obtain ⟨m1, hm1⟩ : ∃ m1 : Int, max 0 n1 = m1 := ⟨_, rfl⟩
  have v0 : (Lit.int .i64 m0).wf = true := by rw [← hm0, ← hn0]; obtain ⟨h1, h2⟩ := bounds_i64 w0; exact WalkArith.wf_i64 ⟨by omega, by omega⟩
  have v1 : (Lit.int .i64 m1).wf = true := by rw [← hm1, ← hn1]; obtain ⟨h1, h2⟩ := bounds_i64 w1; exact WalkArith.wf_i64 ⟨by omega, by omega⟩
  have E0 : Hid (Ck.new m0 = Ck.new a0) := by show _ = _; rw [← hm0, ← hn0]; exact Ck.new_hold a0
  have E1 : Hid (∀ c, Ck.tick c m1 = Ck.tick c a1) := fun c => by rw [← hm1, ← hn1]; exact Ck.tick_ticks c a1
  go_enter Try.func8, Try.ntmps8
  go_wp2_with fail
  refine hk.mono ?_
  rintro e w2 ⟨rfl, hb2⟩
  have hA : Hid (Below W.heap.size W w2) := hb2
  clear hk hb2
  go_wp2_with fail
  refine (Ob.own_new (B := W.heap.size) (S.new _ _ w0) hA.out.size).mono ?_
  rintro e w' ⟨p, rfl, O', hb'⟩
  replace hA : Hid (Below W.heap.size W w') := hA.out.trans hb'
  have OB : Hid (Ob.Own At W.heap.size w' p (Ck.new _)) := O'
  clear O' hb'
  go_wp2_with fail
  refine (Ob.two_new IsA (S.new _ _ v0) OB.out hA.out.size).mono ?_
  rintro e w' ⟨q, rfl, T', hb'⟩
  have TB : Hid (Ob.Two At At W.heap.size w' _ _ q (_)) := T'
  clear OB
  replace hA : Hid (Below W.heap.size W w') := hA.out.trans hb'
  clear T' hb'
  try rw [E0.out] at TB
  go_wp2_with fail
  refine (Ob.two_turn IsB (fun F h => S.tick _ _ F _ _ w1 h) TB.out hA.out.size).mono ?_
  rintro e w' ⟨rfl, T', hb'⟩
  replace TB : Hid (Ob.Two At At W.heap.size w' _ (_) _ _) := T'
  replace hA : Hid (Below W.heap.size W w') := hA.out.trans hb'
  clear T' hb'
  go_wp2_with fail
  refine (Ob.two_turn2 IsA (fun F h => S.tick _ _ F _ _ v1 h) TB.out hA.out.size).mono ?_
  rintro e w' ⟨rfl, T', hb'⟩
  replace TB : Hid (Ob.Two At At W.heap.size w' _ _ _ (_)) := T'
  replace hA : Hid (Below W.heap.size W w') := hA.out.trans hb'
  clear T' hb'
  try rw [E1.out] at TB
  go_wp2_with fail
  refine (Ob.two_look IsA IsB (fun F h => S.rate _ _ F _ h) TB.out hA.out.size).mono ?_
  rintro e w' ⟨rfl, T', hb'⟩
  replace TB : Hid (Ob.Two At At W.heap.size w' _ _ _ _) := T'
  replace hA : Hid (Below W.heap.size W w') := hA.out.trans hb'
  clear T' hb'
  go_wp2_with fail
  refine (Ob.two_look2 IsA IsB (fun F h => S.rate _ _ F _ h) TB.out hA.out.size).mono ?_
  rintro e w' ⟨rfl, T', hb'⟩
  replace TB : Hid (Ob.Two At At W.heap.size w' _ _ _ _) := T'
  replace hA : Hid (Below W.heap.size W w') := hA.out.trans hb'
  clear T' hb'
  go_wp2_with fail
  refine (Ob.two_look IsA IsB (fun F h => S.time _ _ F _ h) TB.out hA.out.size).mono ?_
  rintro e w' ⟨rfl, T', hb'⟩
  replace TB : Hid (Ob.Two At At W.heap.size w' _ _ _ _) := T'
  replace hA : Hid (Below W.heap.size W w') := hA.out.trans hb'
  clear T' hb'
  go_wp2_with fail
  refine (Ob.two_look2 IsA IsB (fun F h => S.time _ _ F _ h) TB.out hA.out.size).mono ?_
  rintro e w' ⟨rfl, T', hb'⟩
  replace TB : Hid (Ob.Two At At W.heap.size w' _ _ _ _) := T'
  replace hA : Hid (Below W.heap.size W w') := hA.out.trans hb'
  clear T' hb'
  go_wp2_with fail
  refine (Ob.two_look IsA IsB (fun F h => S.part _ _ F _ h) TB.out hA.out.size).mono ?_
  rintro e w' ⟨rfl, T', hb'⟩
  replace TB : Hid (Ob.Two At At W.heap.size w' _ _ _ _) := T'
  replace hA : Hid (Below W.heap.size W w') := hA.out.trans hb'
  clear T' hb'
  go_wp2_with fail
  refine (Ob.two_look2 IsA IsB (fun F h => S.part _ _ F _ h) TB.out hA.out.size).mono ?_
  rintro e w' ⟨rfl, T', hb'⟩
  replace TB : Hid (Ob.Two At At W.heap.size w' _ _ _ _) := T'
  replace hA : Hid (Below W.heap.size W w') := hA.out.trans hb'
  clear T' hb'
  go_wp2
  go_ret
  exact ⟨by simp, hA.out⟩
end Go.Proofs.Ytjjahfmjiinpcaa.clockHolds
