/- Layer 17: law 17's own known. -/
import Derived.Test.YtfffpaoimhmedaaVa
import Derived.ProofKit
import Derived.OpenShut
import Derived.Deep.CutBlock
namespace Go.Proofs.Ytfffpaoimhmedaa
open Go.RowKit Go.WideShapes
set_option linter.unusedVariables false
set_option maxRecDepth 100000 in
set_option maxHeartbeats 4000000 in
theorem known17_any {At : Ob.A Vq.St} (S : QueueSpec At) (W : World) : Calls Try.prog 8 #[] W fun e w' => e = .returned (.bool true) ∧ Below W.heap.size W w' := by
  go_enter Try.func8, Try.ntmps8
  go_wp2_with fail
  refine (Qs.new (S.new W 1 (by decide)) (Below.refl _ _)).mono ?_
  rintro e w1 ⟨p, rfl, hq⟩
  have HQ : Hid (Qs At W w1 p ⟨1, []⟩ []) := hq
  clear hq
  have HPut : Hid (∀ (w : World) (s s' : Vq.St) (R : List (Nat × Obj)) (m x : Int) (b : ByteArray), Qs At W w p s R → (Lit.int .i64 m).wf = true → Vq.putS s ⟨m, b⟩ = s' → Vq.putE s = x → Calls Try.prog 12 #[Ob.ptr p, .int .i64 m, .string b] w fun e w' => e = .returned (.int .i64 x) ∧ Qs At W w' p s' R) := fun w s s' R m x b h hm h1 h2 => by subst h1 h2; exact Qs.turn (fun F hF => S.put w p F s m b hm hF) h
  have HTake : Hid (∀ (w : World) (s s' : Vq.St) (R : List (Nat × Obj)) (d : Vq.Dl) (x : Int), Qs At W w p s R → Vq.takeS s = s' → Vq.hd s = d → Vq.takeE s = x → Calls Try.prog 14 #[Ob.ptr p] w fun e w' => e = .returned (.tuple #[.agg #[.int .i64 d.msg, .string d.data], .int .i64 x]) ∧ Qs At W w' p s' R) := fun w s s' R d x h h1 h2 h3 => by subst h1 h2 h3; exact Qs.turn (fun F hF => S.take w p F s hF) h
  have HHead : Hid (∀ (w : World) (s : Vq.St) (R : List (Nat × Obj)) (d : Vq.Dl) (x : Bool), Qs At W w p s R → Vq.hd s = d → decide (0 < s.l.length) = x → Calls Try.prog 16 #[Ob.ptr p] w fun e w' => e = .returned (.tuple #[.agg #[.int .i64 d.msg, .string d.data], .bool x]) ∧ Qs At W w' p s R) := fun w s R d x h h2 h3 => by subst h2 h3; exact Qs.turn (fun F hF => S.head w p F s hF) h
  have HLen : Hid (∀ (w : World) (s : Vq.St) (R : List (Nat × Obj)) (x : Int), Qs At W w p s R → (s.l.length : Int) = x → Calls Try.prog 17 #[Ob.ptr p] w fun e w' => e = .returned (.int .i64 x) ∧ Qs At W w' p s R) := fun w s R x h h2 => by subst h2; exact Qs.turn (fun F hF => S.len w p F s hF) h
  have HAl : Hid (∀ (w : World) (s : Vq.St) (R : List (Nat × Obj)) (o : Obj), Qs At W w p s R → Qs At W (w.alloc o) p s ((w.heap.size, o) :: R)) := fun w s R o h => h.al S o
  go_wp2_with fail
  refine (HPut.out _ _ ⟨1, [⟨3, ⟨#[97]⟩⟩]⟩ _ 3 0 ⟨#[97]⟩ HQ.out (by decide) rfl rfl).mono ?_
  rintro e w2 ⟨rfl, hq⟩
  replace HQ : Hid (Qs At W w2 p ⟨1, [⟨3, ⟨#[97]⟩⟩]⟩ []) := hq
  clear hq
  go_wp2_with fail
  refine (HPut.out _ _ ⟨1, [⟨3, ⟨#[97]⟩⟩]⟩ _ 4 170 ⟨#[]⟩ HQ.out (by decide) rfl rfl).mono ?_
  rintro e w3 ⟨rfl, hq⟩
  replace HQ : Hid (Qs At W w3 p ⟨1, [⟨3, ⟨#[97]⟩⟩]⟩ []) := hq
  clear hq
  go_wp2_with fail
  refine (HLen.out _ _ _ 1 HQ.out rfl).mono ?_
  rintro e w4 ⟨rfl, hq⟩
  replace HQ : Hid (Qs At W w4 p ⟨1, [⟨3, ⟨#[97]⟩⟩]⟩ []) := hq
  clear hq
  go_wp2_with fail
  refine (HHead.out _ _ _ ⟨3, ⟨#[97]⟩⟩ true HQ.out rfl rfl).mono ?_
  rintro e w5 ⟨rfl, hq⟩
  replace HQ : Hid (Qs At W w5 p ⟨1, [⟨3, ⟨#[97]⟩⟩]⟩ []) := hq
  clear hq
  replace HQ : Hid (Qs At W (w5.alloc (.cells #[.int .i64 3, .string ⟨#[97]⟩] 35)) p ⟨1, [⟨3, ⟨#[97]⟩⟩]⟩ ((w5.heap.size, (.cells #[.int .i64 3, .string ⟨#[97]⟩] 35)) :: [])) := HAl.out _ _ _ _ HQ.out
  go_upto_region 5 with fail
  generalize w5.alloc (.cells #[.int .i64 3, .string ⟨#[97]⟩] 35) = v5 at HQ ⊢
  generalize w5.heap.size = g2 at HQ ⊢
  go_wp2_with fail
  refine (HTake.out _ _ ⟨1, []⟩ _ ⟨3, ⟨#[97]⟩⟩ 0 HQ.out rfl rfl rfl).mono ?_
  rintro e w6 ⟨rfl, hq⟩
  replace HQ : Hid (Qs At W w6 p ⟨1, []⟩ ((g2, (.cells #[.int .i64 3, .string ⟨#[97]⟩] 35)) :: [])) := hq
  clear hq
  replace HQ : Hid (Qs At W (w6.alloc (.cells #[.int .i64 3, .string ⟨#[97]⟩] 35)) p ⟨1, []⟩ ((w6.heap.size, (.cells #[.int .i64 3, .string ⟨#[97]⟩] 35)) :: ((g2, (.cells #[.int .i64 3, .string ⟨#[97]⟩] 35)) :: []))) := HAl.out _ _ _ _ HQ.out
  go_upto_region 6 with fail
  generalize w6.alloc (.cells #[.int .i64 3, .string ⟨#[97]⟩] 35) = v6 at HQ ⊢
  generalize w6.heap.size = g4 at HQ ⊢
  go_wp2_with fail
  refine (HTake.out _ _ ⟨1, []⟩ _ Vq.Dl.no 171 HQ.out rfl rfl rfl).mono ?_
  rintro e w7 ⟨rfl, hq⟩
  replace HQ : Hid (Qs At W w7 p ⟨1, []⟩ ((g4, (.cells #[.int .i64 3, .string ⟨#[97]⟩] 35)) :: ((g2, (.cells #[.int .i64 3, .string ⟨#[97]⟩] 35)) :: []))) := hq
  clear hq
  replace HQ : Hid (Qs At W (w7.alloc (.cells #[.int .i64 Vq.Dl.no.msg, .string Vq.Dl.no.data] 35)) p ⟨1, []⟩ ((w7.heap.size, (.cells #[.int .i64 Vq.Dl.no.msg, .string Vq.Dl.no.data] 35)) :: ((g4, (.cells #[.int .i64 3, .string ⟨#[97]⟩] 35)) :: ((g2, (.cells #[.int .i64 3, .string ⟨#[97]⟩] 35)) :: [])))) := HAl.out _ _ _ _ HQ.out
  go_upto_region 7 with fail
  generalize w7.alloc (.cells #[.int .i64 Vq.Dl.no.msg, .string Vq.Dl.no.data] 35) = v7 at HQ ⊢
  generalize w7.heap.size = g6 at HQ ⊢
  go_wp2_with fail
  refine (HHead.out _ _ _ Vq.Dl.no false HQ.out rfl rfl).mono ?_
  rintro e w8 ⟨rfl, hq⟩
  replace HQ : Hid (Qs At W w8 p ⟨1, []⟩ ((g6, (.cells #[.int .i64 Vq.Dl.no.msg, .string Vq.Dl.no.data] 35)) :: ((g4, (.cells #[.int .i64 3, .string ⟨#[97]⟩] 35)) :: ((g2, (.cells #[.int .i64 3, .string ⟨#[97]⟩] 35)) :: [])))) := hq
  clear hq
  replace HQ : Hid (Qs At W (w8.alloc (.cells #[.int .i64 Vq.Dl.no.msg, .string Vq.Dl.no.data] 35)) p ⟨1, []⟩ ((w8.heap.size, (.cells #[.int .i64 Vq.Dl.no.msg, .string Vq.Dl.no.data] 35)) :: ((g6, (.cells #[.int .i64 Vq.Dl.no.msg, .string Vq.Dl.no.data] 35)) :: ((g4, (.cells #[.int .i64 3, .string ⟨#[97]⟩] 35)) :: ((g2, (.cells #[.int .i64 3, .string ⟨#[97]⟩] 35)) :: []))))) := HAl.out _ _ _ _ HQ.out
  go_upto_region 8 with fail
  generalize w8.alloc (.cells #[.int .i64 Vq.Dl.no.msg, .string Vq.Dl.no.data] 35) = v8 at HQ ⊢
  generalize w8.heap.size = g8 at HQ ⊢
  have a0 := row_cells (k := 0) (HQ.out.row (g := g2) (o := .cells #[.int .i64 3, .string ⟨#[97]⟩] 35) (by simp)) rfl
  have a1 := row_cells (k := 1) (HQ.out.row (g := g2) (o := .cells #[.int .i64 3, .string ⟨#[97]⟩] 35) (by simp)) rfl
  have b0 := row_cells (k := 0) (HQ.out.row (g := g4) (o := .cells #[.int .i64 3, .string ⟨#[97]⟩] 35) (by simp)) rfl
  have b1 := row_cells (k := 1) (HQ.out.row (g := g4) (o := .cells #[.int .i64 3, .string ⟨#[97]⟩] 35) (by simp)) rfl
  have HB : Hid (Below W.heap.size W v8) := HQ.out.bel
  clear HQ HPut HTake HHead HLen HAl
  go_wp2
  go_ret
  exact ⟨rfl, HB.out⟩
end Go.Proofs.Ytfffpaoimhmedaa
