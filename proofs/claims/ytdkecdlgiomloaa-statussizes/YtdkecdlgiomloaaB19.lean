/- Layer 19: law 19's own known. -/
import Derived.Test.YtdkecdlgiomloaaA19
import Derived.ProofKit
import Derived.OpenShut
import Derived.Deep.CutBlock
namespace Go.Proofs.Ytdkecdlgiomloaa
open Go.RowKit Go.WideShapes
set_option linter.unusedVariables false
set_option maxRecDepth 100000 in
set_option maxHeartbeats 8000000 in
theorem known19_any {At : Ob.A (List Nat)} (S : StatusSpec At) (W : World) : Calls Try.prog 7 #[] W fun e w' => e = .returned (.bool true) ∧ Below W.heap.size W w' := by
  go_enter Try.func7, Try.ntmps7
  go_wp2_with fail
  refine (Oq.O1.make (S.new W 2 (by decide)) (Below.refl _ _)).mono ?_
  rintro e w1 ⟨p, rfl, hq⟩
  have HO : Hid (Oq.O1 At W w1 p [0, 0] []) := hq
  clear hq
  have HBad : Hid (∀ (w : World) (s s' : List Nat) (R : Oq.Rs) (k : Int), Oq.O1 At W w p s R → (Lit.int .i64 k).wf = true → Q19.up s k = s' → Calls Try.prog 13 #[Ob.ptr p, .int .i64 k] w fun e w' => e = .returned (.tuple #[]) ∧ Oq.O1 At W w' p s' R) := fun w s s' R k h hk h1 => by subst h1; exact h.turn (fun F hF => S.bad w p F s k hk hF)
  have HGood : Hid (∀ (w : World) (s s' : List Nat) (R : Oq.Rs) (k : Int), Oq.O1 At W w p s R → (Lit.int .i64 k).wf = true → Q19.down s k = s' → Calls Try.prog 11 #[Ob.ptr p, .int .i64 k] w fun e w' => e = .returned (.tuple #[]) ∧ Oq.O1 At W w' p s' R) := fun w s s' R k h hk h1 => by subst h1; exact h.turn (fun F hF => S.good w p F s k hk hF)
  have HGet : Hid (∀ (w : World) (s : List Nat) (R : Oq.Rs) (k : Int) (x : Nat), Oq.O1 At W w p s R → (Lit.int .i64 k).wf = true → Q19.get s k = x → Calls Try.prog 17 #[Ob.ptr p, .int .i64 k] w fun e w' => e = .returned (.int .i64 (x : Int)) ∧ Oq.O1 At W w' p s R) := fun w s R k x h hk h1 => by subst h1; exact h.look S.is (fun F hF => S.get w p F s k hk hF)
  have HSpr : Hid (∀ (w : World) (s : List Nat) (R : Oq.Rs) (x : Nat), Oq.O1 At W w p s R → Q19.spread s = x → Calls Try.prog 16 #[Ob.ptr p] w fun e w' => e = .returned (.int .i64 (x : Int)) ∧ Oq.O1 At W w' p s R) := fun w s R x h h1 => by subst h1; exact h.look S.is (fun F hF => S.spread w p F s hF)
  have HAll : Hid (∀ (w : World) (s : List Nat) (R : Oq.Rs) (n : Nat), Oq.O1 At W w p s R → s.length = n → Calls Try.prog 14 #[Ob.ptr p] w fun e w' => ∃ a c R', e = .returned (.slice a n c) ∧ Oq.Lst R' a c n (sL s) ∧ Oq.O1 At W w' p s (R' ++ R)) := fun w s R n h h1 => by subst h1; exact h.list S.is (fun F hF => S.all w p F s hF)
  go_wp2_with fail
  refine (HBad.out _ _ [1, 0] _ 0 HO.out (by decide) (by decide)).mono ?_
  rintro e w2 ⟨rfl, hq⟩
  replace HO : Hid (Oq.O1 At W w2 p [1, 0] []) := hq
  clear hq
  go_wp2_with fail
  refine (HBad.out _ _ [2, 0] _ 0 HO.out (by decide) (by decide)).mono ?_
  rintro e w3 ⟨rfl, hq⟩
  replace HO : Hid (Oq.O1 At W w3 p [2, 0] []) := hq
  clear hq
  go_wp2_with fail
  refine (HGood.out _ _ [1, 0] _ 0 HO.out (by decide) (by decide)).mono ?_
  rintro e w4 ⟨rfl, hq⟩
  replace HO : Hid (Oq.O1 At W w4 p [1, 0] []) := hq
  clear hq
  go_wp2_with fail
  refine (HBad.out _ _ [1, 0] _ 5 HO.out (by decide) (by decide)).mono ?_
  rintro e w5 ⟨rfl, hq⟩
  replace HO : Hid (Oq.O1 At W w5 p [1, 0] []) := hq
  clear hq
  go_wp2_with fail
  refine (HAll.out _ _ _ 2 HO.out rfl).mono ?_
  rintro e w6 ⟨a, c, R', rfl, hL, hq⟩
  have hc2 := hL.1
  rcases hL.2.2 with h0 | ⟨g, o, b, rfl, hm, hcell⟩
  · exact absurd h0 (by decide)
  have HC : Hid (∀ w : World, Oq.Rows R' w → w.cell? ⟨g, o, none⟩ = some (.int .i64 1)) := fun w h => by have := hcell w (h _ hm) 0 _ rfl; rwa [Nat.add_zero] at this
  replace HO : Hid (Oq.O1 At W w6 p [1, 0] R') := hq.less (fun x hx => List.mem_append_left _ hx)
  clear hq hm hcell hL HAll HBad HGood
  go_wp2_with fail
  refine (HGet.out _ _ _ 0 1 HO.out (by decide) (by decide)).mono ?_
  rintro e w7 ⟨rfl, hq⟩
  replace HO : Hid (Oq.O1 At W w7 p [1, 0] R') := hq
  clear hq
  go_wp2_with fail
  refine (HGet.out _ _ _ 1 0 HO.out (by decide) (by decide)).mono ?_
  rintro e w8 ⟨rfl, hq⟩
  replace HO : Hid (Oq.O1 At W w8 p [1, 0] R') := hq
  clear hq
  go_wp2_with fail
  refine (HGet.out _ _ _ 7 0 HO.out (by decide) (by decide)).mono ?_
  rintro e w9 ⟨rfl, hq⟩
  replace HO : Hid (Oq.O1 At W w9 p [1, 0] R') := hq
  clear hq
  go_wp2_with fail
  refine (HSpr.out _ _ _ 1 HO.out (by decide)).mono ?_
  rintro e w10 ⟨rfl, hq⟩
  replace HO : Hid (Oq.O1 At W w10 p [1, 0] R') := hq
  clear hq
  have l0 := HC.out _ HO.out.rows
  have HB : Hid (Below W.heap.size W w10) := HO.out.bel
  clear HO HC HGet HSpr
  go_wp2
  go_ret
  exact ⟨rfl, HB.out⟩
end Go.Proofs.Ytdkecdlgiomloaa
