/- Law 11's own 'known', over whatever holds the time. -/
import Derived.Test.YtpdeimnjmhgdgaaA1
import Derived.Test.YtpdeimnjmhgdgaaU2
namespace Go.Proofs.Ytpdeimnjmhgdgaa
open Go.RowKit
set_option linter.unusedVariables false
variable {At : Ob.A Gq.St}
theorem u16_sum {a x y : Nat} (h : (a + x) % 65536 = y) : IntKind.u16.wrap ((a : Int) + (x : Int)) = (y : Int) := by rw [IntKind.wrap_u16]; omega
theorem u16_same {x : Nat} (h : x < 65536) : IntKind.u16.wrap (x : Int) = (x : Int) := by rw [IntKind.wrap_u16]; omega
theorem mod_u16 {x y : Nat} (h : x % 65536 = y) : y < 65536 := h ▸ Nat.mod_lt _ (by decide)
set_option maxRecDepth 100000 in
set_option maxHeartbeats 2000000 in
theorem known11_any (S : GlobalSpec At) (W : World) : Calls Try.prog 8 #[] W fun e w' => e = .returned (.bool true) ∧ Below W.heap.size W w' := by
  have hA : Hid (Below W.heap.size W W) := Below.refl _ _
  go_enter Try.func8, Try.ntmps8
  go_wp2_with fail
  refine (Ob.own_new (B := W.heap.size) (S.new _) hA.out.size).mono ?_
  rintro e w' ⟨p, rfl, O', hb'⟩
  replace hA : Hid (Below W.heap.size W w') := hA.out.trans hb'
  have OB : Hid (Ob.Own At W.heap.size w' p (.no)) := O'
  clear O' hb'
  go_wp2_with fail
  refine (Ob.own_look (v := .int .u16 7) S.is (fun F h => S.tell _ _ F _ 7 (by decide) h) OB.out hA.out.size).mono ?_
  rintro e w' ⟨rfl, O', hb'⟩
  replace hA : Hid (Below W.heap.size W w') := hA.out.trans hb'
  replace OB : Hid (Ob.Own At W.heap.size w' _ _) := O'
  clear O' hb'
  go_wp2_with fail
  refine (Ob.own_turn (fun F h => S.beat _ _ F _ 0 100 90 false rfl (by decide) (by decide) h) OB.out hA.out.size).mono ?_
  rintro e w' ⟨rfl, O', hb'⟩
  replace hA : Hid (Below W.heap.size W w') := hA.out.trans hb'
  replace OB : Hid (Ob.Own At W.heap.size w' _ (.one ⟨0, 100, 90⟩)) := O'
  clear O' hb'
  go_wp2_with fail
  refine (Ob.own_look (v := .int .u16 105) S.is (fun F h => S.tell _ _ F _ 95 (by decide) h) OB.out hA.out.size).mono ?_
  rintro e w' ⟨rfl, O', hb'⟩
  replace hA : Hid (Below W.heap.size W w') := hA.out.trans hb'
  replace OB : Hid (Ob.Own At W.heap.size w' _ _) := O'
  clear O' hb'
  go_wp2_with fail
  refine (Ob.own_turn (fun F h => S.beat _ _ F _ 0 300 300 false rfl (by decide) (by decide) h) OB.out hA.out.size).mono ?_
  rintro e w' ⟨rfl, O', hb'⟩
  replace hA : Hid (Below W.heap.size W w') := hA.out.trans hb'
  replace OB : Hid (Ob.Own At W.heap.size w' _ (.more ⟨0, 300, 300⟩ 100 90 2)) := O'
  clear O' hb'
  go_wp2_with fail
  refine (Ob.own_look (v := .tuple #[.int .i64 200, .int .i64 210, .bool true]) S.is (fun F h => S.lens _ _ F _ h) OB.out hA.out.size).mono ?_
  rintro e w' ⟨rfl, O', hb'⟩
  replace hA : Hid (Below W.heap.size W w') := hA.out.trans hb'
  replace OB : Hid (Ob.Own At W.heap.size w' _ _) := O'
  clear O' hb'
  go_wp2_with fail
  refine (Ob.own_look (v := .tuple #[.int .i64 1050, .bool true]) S.is (fun F h => S.rate _ _ F _ 1000 rfl h) OB.out hA.out.size).mono ?_
  rintro e w' ⟨rfl, O', hb'⟩
  replace hA : Hid (Below W.heap.size W w') := hA.out.trans hb'
  replace OB : Hid (Ob.Own At W.heap.size w' _ _) := O'
  clear O' hb'
  go_wp2_with fail
  refine (Ob.own_look (v := .int .i64 2) S.is (fun F h => S.steady _ _ F _ h) OB.out hA.out.size).mono ?_
  rintro e w' ⟨rfl, O', hb'⟩
  replace hA : Hid (Below W.heap.size W w') := hA.out.trans hb'
  replace OB : Hid (Ob.Own At W.heap.size w' _ _) := O'
  clear O' hb'
  go_wp2
  go_ret
  exact ⟨rfl, hA.out⟩
end Go.Proofs.Ytpdeimnjmhgdgaa
