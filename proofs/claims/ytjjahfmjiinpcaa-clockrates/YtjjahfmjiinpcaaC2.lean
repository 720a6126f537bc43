/- Law 9's own 'known', over whatever clock. -/
import Derived.Test.YtjjahfmjiinpcaaC1
namespace Go.Proofs.Ytjjahfmjiinpcaa
open Go.RowKit
set_option linter.unusedVariables false
variable {At : Ob.A Ck.St}
set_option maxRecDepth 100000 in
set_option maxHeartbeats 2000000 in
theorem known9_any (S : ClockSpec At) (W : World) : Calls Try.prog 9 #[] W fun e w' => e = .returned (.bool true) ∧ Below W.heap.size W w' := by
  have hA : Hid (Below W.heap.size W W) := Below.refl _ _
  have HSi := S.since
  go_enter Try.func9, Try.ntmps9
  go_wp2_with fail
  refine (Ob.own_new (B := W.heap.size) (S.new _ 4 rfl) hA.out.size).mono ?_
  rintro e w' ⟨p, rfl, O', hb'⟩
  replace hA : Hid (Below W.heap.size W w') := hA.out.trans hb'
  have OB : Hid (Ob.Own At W.heap.size w' p (⟨0, 0, 1024, 4⟩)) := O'
  clear O' hb'
  go_wp2_with fail
  refine (Ob.own_turn (fun F h => S.tick _ _ F _ 4 rfl h) OB.out hA.out.size).mono ?_
  rintro e w' ⟨rfl, O', hb'⟩
  replace hA : Hid (Below W.heap.size W w') := hA.out.trans hb'
  replace OB : Hid (Ob.Own At W.heap.size w' _ (⟨1, 0, 1024, 4⟩)) := O'
  clear O' hb'
  go_wp2_with fail
  refine (Ob.own_look S.is (fun F h => S.rate _ _ F _ h) OB.out hA.out.size).mono ?_
  rintro e w' ⟨rfl, O', hb'⟩
  replace hA : Hid (Below W.heap.size W w') := hA.out.trans hb'
  replace OB : Hid (Ob.Own At W.heap.size w' _ _) := O'
  clear O' hb'
  go_wp2_with fail
  refine (Ob.own_look S.is (fun F h => S.time _ _ F _ h) OB.out hA.out.size).mono ?_
  rintro e w' ⟨rfl, O', hb'⟩
  replace hA : Hid (Below W.heap.size W w') := hA.out.trans hb'
  replace OB : Hid (Ob.Own At W.heap.size w' _ _) := O'
  clear O' hb'
  go_wp2_with fail
  refine (Ob.own_look S.is (fun F h => S.part _ _ F _ h) OB.out hA.out.size).mono ?_
  rintro e w' ⟨rfl, O', hb'⟩
  replace hA : Hid (Below W.heap.size W w') := hA.out.trans hb'
  replace OB : Hid (Ob.Own At W.heap.size w' _ _) := O'
  clear O' hb'
  go_wp2_with fail
  refine (Ob.own_turn (fun F h => S.setRate _ _ F _ 1100 256 rfl rfl h) OB.out hA.out.size).mono ?_
  rintro e w' ⟨rfl, O', hb'⟩
  replace hA : Hid (Below W.heap.size W w') := hA.out.trans hb'
  replace OB : Hid (Ob.Own At W.heap.size w' _ (⟨1, 0, 1100, 4⟩)) := O'
  clear O' hb'
  go_wp2_with fail
  refine (Ob.own_turn (fun F h => S.setRate _ _ F _ 2000 256 rfl rfl h) OB.out hA.out.size).mono ?_
  rintro e w' ⟨rfl, O', hb'⟩
  replace hA : Hid (Below W.heap.size W w') := hA.out.trans hb'
  replace OB : Hid (Ob.Own At W.heap.size w' _ (⟨1, 0, 1100, 4⟩)) := O'
  clear O' hb'
  go_wp2_with fail
  refine (Ob.own_turn (fun F h => S.setRate _ _ F _ 1024 255 rfl rfl h) OB.out hA.out.size).mono ?_
  rintro e w' ⟨rfl, O', hb'⟩
  replace hA : Hid (Below W.heap.size W w') := hA.out.trans hb'
  replace OB : Hid (Ob.Own At W.heap.size w' _ (⟨1, 0, 1100, 4⟩)) := O'
  clear O' hb'
  go_wp2_with fail
  refine (S.since _ 65535 1 (by decide) (by decide)).mono ?_
  rintro e w' ⟨rfl, hb'⟩
  replace hA : Hid (Below W.heap.size W w') := hA.out.trans (hb'.mono hA.out.size)
  clear hb'
  go_wp2
  go_ret
  exact ⟨rfl, hA.out⟩
end Go.Proofs.Ytjjahfmjiinpcaa
