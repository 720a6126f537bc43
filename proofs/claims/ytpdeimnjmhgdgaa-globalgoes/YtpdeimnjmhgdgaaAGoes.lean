/- GlobalGoes: from a beat on the time goes on as the clock does, round its end, too; for every beat and every time; no condition. -/
import Derived.Test.YtpdeimnjmhgdgaaA2
import Derived.ProofKit
import Derived.OpenShut
namespace Go.Proofs.Ytpdeimnjmhgdgaa.globalGoes
open Go.ChangeShapes Go.WideShapes Go.ChangeAt Go.RowKit
set_option linter.unusedVariables false
variable {At : Ob.A Gq.St}
set_option maxRecDepth 100000 in
set_option maxHeartbeats 2000000 in
theorem walkN (S : GlobalSpec At) (g m d : Nat) (who : Int) (hg : g < 65536) (hm : m < 65536) (hd : d < 65536) (hw : (Lit.int .i64 who).wf = true) (W : World) :
    Calls Try.prog 4 #[.int .u16 (g : Int), .int .u16 (m : Int), .int .u16 (d : Int), .int .i64 who] W fun e w' => e = .returned (.bool true) ∧ Below W.heap.size W w' := by
  have hk := known11_any S W
  obtain ⟨x, hx⟩ : ∃ x, (m + d) % 65536 = x := ⟨_, rfl⟩
  obtain ⟨y, hy⟩ : ∃ y, (g + d) % 65536 = y := ⟨_, rfl⟩
  have e1 : IntKind.u16.wrap ((m : Int) + (d : Int)) = (x : Int) := by rw [IntKind.wrap_u16]; omega
  have e2 : IntKind.u16.wrap ((g : Int) + (d : Int)) = (y : Int) := by rw [IntKind.wrap_u16]; omega
  have HB : Hid (∀ w p F, At w p F .no → Ob.Turns Try.prog At 11 #[Ob.ptr p, .int .i64 who, .int .u16 (g : Int), .int .u16 (m : Int), .bool true] w p F (.one ⟨who, g, m⟩) (.tuple #[])) := fun w p F h => S.beat w p F _ who g m true hw hg hm h
  have HT1 : Hid (∀ w p F, At w p F (.one ⟨who, g, m⟩) → Ob.Looks Try.prog 18 #[Ob.ptr p, .int .u16 (m : Int)] w (.int .u16 (g : Int))) := fun w p F h => by
    have := S.tell w p F _ m hm h
    rw [show Gq.tell (.one ⟨who, g, m⟩) m = g from by show (m + (g + 65536 - m)) % 65536 = g; omega] at this
    exact this
  have HT2 : Hid (∀ w p F, At w p F (.one ⟨who, g, m⟩) → Ob.Looks Try.prog 18 #[Ob.ptr p, .int .u16 (x : Int)] w (.int .u16 (y : Int))) := fun w p F h => by
    have := S.tell w p F _ x (by omega) h
    rw [show Gq.tell (.one ⟨who, g, m⟩) x = y from by show (x + (g + 65536 - m)) % 65536 = y; omega] at this
    exact this
  clear hg hm hd hx hy hw
  go_enter Try.func4, Try.ntmps4
  go_wp2_with fail
  refine hk.mono ?_
  rintro e w1 ⟨rfl, hb1⟩
  have hA : Hid (Below W.heap.size W w1) := hb1
  clear hk hb1
  go_wp2_with fail
  refine (Ob.own_new (B := W.heap.size) (S.new _) hA.out.size).mono ?_
  rintro e w' ⟨p, rfl, O', hb'⟩
  replace hA : Hid (Below W.heap.size W w') := hA.out.trans hb'
  have OB : Hid (Ob.Own At W.heap.size w' p (.no)) := O'
  clear O' hb'
  go_wp2_with fail
  refine (Ob.own_turn (fun F h => HB.out _ _ F h) OB.out hA.out.size).mono ?_
  rintro e w' ⟨rfl, O', hb'⟩
  replace hA : Hid (Below W.heap.size W w') := hA.out.trans hb'
  replace OB : Hid (Ob.Own At W.heap.size w' _ (.one ⟨who, g, m⟩)) := O'
  clear O' hb'
  go_wp2_with fail
  refine (Ob.own_look S.is (fun F h => HT1.out _ _ F h) OB.out hA.out.size).mono ?_
  rintro e w' ⟨rfl, O', hb'⟩
  replace hA : Hid (Below W.heap.size W w') := hA.out.trans hb'
  replace OB : Hid (Ob.Own At W.heap.size w' _ _) := O'
  clear O' hb'
  go_wp2_with fail
  refine (Ob.own_look S.is (fun F h => HT2.out _ _ F h) OB.out hA.out.size).mono ?_
  rintro e w' ⟨rfl, O', hb'⟩
  replace hA : Hid (Below W.heap.size W w') := hA.out.trans hb'
  replace OB : Hid (Ob.Own At W.heap.size w' _ _) := O'
  clear O' hb'
  go_wp2_with fail
  refine (Ob.own_look (v := .int .i64 1) S.is (fun F h => S.steady _ _ F _ h) OB.out hA.out.size).mono ?_
  rintro e w' ⟨rfl, O', hb'⟩
  replace hA : Hid (Below W.heap.size W w') := hA.out.trans hb'
  replace OB : Hid (Ob.Own At W.heap.size w' _ _) := O'
  clear O' hb'
  go_wp2
  go_ret
  exact ⟨rfl, hA.out⟩
theorem walkA (S : GlobalSpec At) (a0 : Int) (w0 : (Lit.int .u16 a0).wf = true) (a1 : Int) (w1 : (Lit.int .u16 a1).wf = true) (a2 : Int) (w2 : (Lit.int .u16 a2).wf = true) (a3 : Int) (w3 : (Lit.int .i64 a3).wf = true) (W : World) :
    Calls Try.prog 4 #[.int .u16 a0, .int .u16 a1, .int .u16 a2, .int .i64 a3] W fun e w' => e = .returned (.bool true) ∧ Below W.heap.size W w' := by
  obtain ⟨h1, h2⟩ := bounds_u16 w0
  obtain ⟨h3, h4⟩ := bounds_u16 w1
  obtain ⟨h5, h6⟩ := bounds_u16 w2
  obtain ⟨a, rfl⟩ := Int.eq_ofNat_of_zero_le h1
  obtain ⟨b, rfl⟩ := Int.eq_ofNat_of_zero_le h3
  obtain ⟨c, rfl⟩ := Int.eq_ofNat_of_zero_le h5
  exact walkN S a b c a3 (by omega) (by omega) (by omega) w3 W
end Go.Proofs.Ytpdeimnjmhgdgaa.globalGoes
