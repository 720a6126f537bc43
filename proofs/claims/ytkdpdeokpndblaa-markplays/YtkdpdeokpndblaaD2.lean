/- Law 10's own 'known', over whatever mark. -/
import Derived.Test.YtkdpdeokpndblaaD1
import Derived.Test.YtkdpdeokpndblaaU2
namespace Go.Proofs.Ytkdpdeokpndblaa
open Go.RowKit
set_option linter.unusedVariables false
variable {At : Ob.A Mq.St}
set_option maxRecDepth 100000 in
set_option maxHeartbeats 2000000 in
theorem known10_any (S : MarkSpec At) (W : World) : Calls Try.prog 6 #[] W fun e w' => e = .returned (.bool true) ∧ Below W.heap.size W w' := by
  have hA : Hid (Below W.heap.size W W) := Below.refl _ _
  go_enter Try.func6, Try.ntmps6
  go_wp2_with fail
  refine (Ob.own_new (B := W.heap.size) (S.new _) hA.out.size).mono ?_
  rintro e w' ⟨p, rfl, O', hb'⟩
  replace hA : Hid (Below W.heap.size W w') := hA.out.trans hb'
  have OB : Hid (Ob.Own At W.heap.size w' p (Mq.no)) := O'
  clear O' hb'
  go_wp2_with fail
  refine (Ob.own_look (v := .tuple #[.int .i64 0, .bool false]) S.is (fun F h => S.tell _ _ F _ 5 (by decide) h) OB.out hA.out.size).mono ?_
  rintro e w' ⟨rfl, O', hb'⟩
  replace hA : Hid (Below W.heap.size W w') := hA.out.trans hb'
  replace OB : Hid (Ob.Own At W.heap.size w' _ _) := O'
  clear O' hb'
  go_wp2_with fail
  refine (Ob.own_turn (fun F h => S.beat _ _ F _ 1 rfl h) OB.out hA.out.size).mono ?_
  rintro e w' ⟨rfl, O', hb'⟩
  replace hA : Hid (Below W.heap.size W w') := hA.out.trans hb'
  replace OB : Hid (Ob.Own At W.heap.size w' _ (Mq.no)) := O'
  clear O' hb'
  go_wp2_with fail
  refine (Ob.own_look (v := .tuple #[.int .i64 0, .bool false]) S.is (fun F h => S.tell _ _ F _ 5 (by decide) h) OB.out hA.out.size).mono ?_
  rintro e w' ⟨rfl, O', hb'⟩
  replace hA : Hid (Below W.heap.size W w') := hA.out.trans hb'
  replace OB : Hid (Ob.Own At W.heap.size w' _ _) := O'
  clear O' hb'
  go_wp2_with fail
  refine (Ob.own_turn (fun F h => S.start _ _ F _ 65535 (by decide) h) OB.out hA.out.size).mono ?_
  rintro e w' ⟨rfl, O', hb'⟩
  replace hA : Hid (Below W.heap.size W w') := hA.out.trans hb'
  replace OB : Hid (Ob.Own At W.heap.size w' _ (⟨some 65535, none⟩)) := O'
  clear O' hb'
  go_wp2_with fail
  refine (Ob.own_turn (fun F h => S.beat _ _ F _ 3 rfl h) OB.out hA.out.size).mono ?_
  rintro e w' ⟨rfl, O', hb'⟩
  replace hA : Hid (Below W.heap.size W w') := hA.out.trans hb'
  replace OB : Hid (Ob.Own At W.heap.size w' _ (⟨some 65535, some (65535, 3)⟩)) := O'
  clear O' hb'
  go_wp2_with fail
  refine (Ob.own_look (v := .tuple #[.int .i64 2, .bool true]) S.is (fun F h => S.tell _ _ F _ 1 (by decide) h) OB.out hA.out.size).mono ?_
  rintro e w' ⟨rfl, O', hb'⟩
  replace hA : Hid (Below W.heap.size W w') := hA.out.trans hb'
  replace OB : Hid (Ob.Own At W.heap.size w' _ _) := O'
  clear O' hb'
  go_wp2_with fail
  refine (Ob.own_look (v := .tuple #[.int .u16 65535, .bool true]) S.is (fun F h => S.last _ _ F _ h) OB.out hA.out.size).mono ?_
  rintro e w' ⟨rfl, O', hb'⟩
  replace hA : Hid (Below W.heap.size W w') := hA.out.trans hb'
  replace OB : Hid (Ob.Own At W.heap.size w' _ _) := O'
  clear O' hb'
  go_wp2_with fail
  refine (Ob.own_look (v := .int .i64 3) S.is (fun F h => S.cycle _ _ F _ h) OB.out hA.out.size).mono ?_
  rintro e w' ⟨rfl, O', hb'⟩
  replace hA : Hid (Below W.heap.size W w') := hA.out.trans hb'
  replace OB : Hid (Ob.Own At W.heap.size w' _ _) := O'
  clear O' hb'
  go_wp2
  go_ret
  exact ⟨rfl, hA.out⟩
end Go.Proofs.Ytkdpdeokpndblaa
