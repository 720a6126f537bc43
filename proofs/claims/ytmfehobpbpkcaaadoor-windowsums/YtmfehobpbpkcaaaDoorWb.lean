/- Layer 16: law 16's own known. -/
import Derived.Test.YtmfehobpbpkcaaaDoorWa
namespace Go.Proofs.YtmfehobpbpkcaaaDoor
open Go.RowKit Go.WideShapes
set_option linter.unusedVariables false
theorem Wq.k1 : Wq.atW Mx.l16 1 40 = 0 := by decide +kernel
theorem Wq.k2 : Wq.atW Mx.l16 1 80 = -1 := by decide +kernel
theorem Wq.k3 : Wq.atW Mx.l16 0 40 = -1 := by decide +kernel
theorem Wq.k4 : Wq.owner Mx.l16 1 79 = 1 := by decide +kernel
theorem Wq.k5 : Wq.free Mx.l16 1 = 60 := by decide +kernel
def Wq.ks : List UInt8 := List.replicate 40 45 ++ List.replicate 40 69 ++ List.replicate 20 45
theorem Wq.k6 : Wq.kinds Mx.l16 1 = Wq.ks := by decide +kernel
theorem Wq.k7 : Wq.kinds Mx.nil0 0 = [] := by decide +kernel
theorem Wq.l16_is : Mx.is Mx.l16 = true := by decide
set_option maxRecDepth 100000 in
set_option maxHeartbeats 4000000 in
theorem known16_any {Q : World → Prop} (hQ : ∀ w w', Q w → Below w.heap.size w w' → Q w') (S : WinSpec Q) (W : World) (hW : Q W) : Calls Tryd.prog 6 #[] W fun e w' => e = .returned (.bool true) ∧ Below W.heap.size W w' := by
  have HQ : Hid (∀ w, Below W.heap.size W w → Q w) := fun w hb => hQ W w hW hb
  have HAt : Hid (∀ (w : World) (p : Nat) (a : Ma) (c u r : Int), Bx W w p Mx.l16 a → (Lit.int .i64 c).wf = true → (Lit.int .i64 u).wf = true → Wq.atW Mx.l16 c u = r → Calls Tryd.prog 9 #[mV Mx.l16 a, .int .i64 c, .int .i64 u] w fun e w' => e = .returned (.int .i64 r) ∧ Below w.heap.size w w') := fun w p a c u r h h1 h2 hr => by subst hr; exact S.at_ w Mx.l16 a c u (HQ.out _ h.below) h.mem (Mx.small_is Wq.l16_is) (Mx.wf_is Wq.l16_is) h1 h2
  have HOw : Hid (∀ (w : World) (p : Nat) (a : Ma) (c u r : Int), Bx W w p Mx.l16 a → (Lit.int .i64 c).wf = true → (Lit.int .i64 u).wf = true → Wq.owner Mx.l16 c u = r → Calls Tryd.prog 10 #[mV Mx.l16 a, .int .i64 c, .int .i64 u] w fun e w' => e = .returned (.int .i64 r) ∧ Below w.heap.size w w') := fun w p a c u r h h1 h2 hr => by subst hr; exact S.owner w Mx.l16 a c u (HQ.out _ h.below) h.mem (Mx.small_is Wq.l16_is) (Mx.wf_is Wq.l16_is) h1 h2
  have HFr : Hid (∀ (w : World) (p : Nat) (a : Ma), Bx W w p Mx.l16 a → Calls Tryd.prog 13 #[mV Mx.l16 a, .int .i64 1] w fun e w' => e = .returned (.int .i64 60) ∧ Below w.heap.size w w') := fun w p a h => by have := S.free w Mx.l16 a 1 (HQ.out _ h.below) h.mem (Mx.small_is Wq.l16_is) (Mx.wf_is Wq.l16_is) (by decide); rw [Wq.k5] at this; exact this
  have HKi : Hid (∀ (w : World) (p : Nat) (a : Ma), Bx W w p Mx.l16 a → Calls Tryd.prog 12 #[mV Mx.l16 a, .int .i64 1] w fun e w' => e = .returned (.string ⟨Wq.ks.toArray⟩) ∧ Below w.heap.size w w') := fun w p a h => by have := S.kinds w Mx.l16 a 1 (HQ.out _ h.below) h.mem (Mx.small_is Wq.l16_is) (Mx.wf_is Wq.l16_is) (by decide); rw [Wq.k6] at this; exact this
  have HKn : Hid (∀ (w : World), Below W.heap.size W w → Calls Tryd.prog 12 #[mV Mx.nil0 Ma.nil0, .int .i64 0] w fun e w' => e = .returned (.string ⟨#[]⟩) ∧ Below w.heap.size w w') := fun w hb => by have := S.kinds w Mx.nil0 Ma.nil0 0 (HQ.out _ hb) (min_nil _) Mx.small_nil Mx.wf_nil (by decide); rw [Wq.k7] at this; exact this
  clear hW hQ
  go_enter Tryd.func6, Tryd.ntmps6
  go_wp2_with fail
  refine (least16_any W).mono ?_
  rintro e w1 ⟨a, rfl, hO, hb⟩
  have HX : Hid (Bx W (w1.alloc (.cells #[.int .i64 Mx.l16.level, .int .i64 Mx.l16.nodes, .int .i64 Mx.l16.cycles, .int .i64 Mx.l16.length, .int .i64 Mx.l16.enable, .int .i64 Mx.l16.unit, .int .i64 Mx.l16.init, .int .u32 (Mx.l16.ref : Int), .slice a.s1 Mx.l16.masters.length a.c1, .slice a.s2 Mx.l16.messages.length a.c2, .slice a.s3 Mx.l16.windows.length a.c3] 27)) w1.heap.size Mx.l16 a) := Bx.make hb ⟨hO.o1.sl.li, hO.o2.sl.li, hO.o3.sl.li⟩
  clear hO hb
  dsimp only [mV, mCs]
  go_upto_region 2 with fail
  generalize w1.alloc (.cells #[.int .i64 Mx.l16.level, .int .i64 Mx.l16.nodes, .int .i64 Mx.l16.cycles, .int .i64 Mx.l16.length, .int .i64 Mx.l16.enable, .int .i64 Mx.l16.unit, .int .i64 Mx.l16.init, .int .u32 (Mx.l16.ref : Int), .slice a.s1 Mx.l16.masters.length a.c1, .slice a.s2 Mx.l16.messages.length a.c2, .slice a.s3 Mx.l16.windows.length a.c3] 27) = v1 at HX ⊢
  generalize w1.heap.size = p at HX ⊢
  obtain ⟨y0, y1, y2, y3, y4, y5, y6, y7, y8, y9, y10⟩ := HX.out.row.mat
  go_wp2_with fail
  refine (HKi.out _ p a HX.out).mono ?_
  rintro e w2 ⟨rfl, hb⟩
  replace HX : Hid (Bx W w2 p Mx.l16 a) := HX.out.on hb
  clear y0 y1 y10 y2 y3 y4 y5 y6 y7 y8 y9
  clear hb
  have hkl : Wq.ks.length = 100 := by decide
  have hks : (⟨Wq.ks.toArray⟩ : ByteArray).size = 100 := by decide +kernel
  have hex : (⟨Wq.ks.toArray⟩ : ByteArray).extract 39 41 = ⟨#[45, 69]⟩ := by decide +kernel
  generalize (⟨Wq.ks.toArray⟩ : ByteArray) = KS at hks hex ⊢
  obtain ⟨y0, y1, y2, y3, y4, y5, y6, y7, y8, y9, y10⟩ := HX.out.row.mat
  go_wp2_with fail
  refine (HAt.out _ p a 1 40 0 HX.out (by decide) (by decide) Wq.k1).mono ?_
  rintro e w3 ⟨rfl, hb⟩
  replace HX : Hid (Bx W w3 p Mx.l16 a) := HX.out.on hb
  clear y0 y1 y10 y2 y3 y4 y5 y6 y7 y8 y9
  clear hb
  obtain ⟨y0, y1, y2, y3, y4, y5, y6, y7, y8, y9, y10⟩ := HX.out.row.mat
  go_wp2_with fail
  refine (HAt.out _ p a 1 80 (-1) HX.out (by decide) (by decide) Wq.k2).mono ?_
  rintro e w4 ⟨rfl, hb⟩
  replace HX : Hid (Bx W w4 p Mx.l16 a) := HX.out.on hb
  clear y0 y1 y10 y2 y3 y4 y5 y6 y7 y8 y9
  clear hb
  obtain ⟨y0, y1, y2, y3, y4, y5, y6, y7, y8, y9, y10⟩ := HX.out.row.mat
  go_wp2_with fail
  refine (HAt.out _ p a 0 40 (-1) HX.out (by decide) (by decide) Wq.k3).mono ?_
  rintro e w5 ⟨rfl, hb⟩
  replace HX : Hid (Bx W w5 p Mx.l16 a) := HX.out.on hb
  clear y0 y1 y10 y2 y3 y4 y5 y6 y7 y8 y9
  clear hb
  obtain ⟨y0, y1, y2, y3, y4, y5, y6, y7, y8, y9, y10⟩ := HX.out.row.mat
  go_wp2_with fail
  refine (HOw.out _ p a 1 79 1 HX.out (by decide) (by decide) Wq.k4).mono ?_
  rintro e w6 ⟨rfl, hb⟩
  replace HX : Hid (Bx W w6 p Mx.l16 a) := HX.out.on hb
  clear y0 y1 y10 y2 y3 y4 y5 y6 y7 y8 y9
  clear hb
  obtain ⟨y0, y1, y2, y3, y4, y5, y6, y7, y8, y9, y10⟩ := HX.out.row.mat
  go_wp2_with fail
  refine (HFr.out _ p a HX.out).mono ?_
  rintro e w7 ⟨rfl, hb⟩
  replace HX : Hid (Bx W w7 p Mx.l16 a) := HX.out.on hb
  clear y0 y1 y10 y2 y3 y4 y5 y6 y7 y8 y9
  clear hb
  go_wp2_with fail
  refine (HKn.out _ HX.out.below).mono ?_
  rintro e w8 ⟨rfl, hb⟩
  replace HX : Hid (Bx W w8 p Mx.l16 a) := HX.out.on hb
  clear hb
  go_wp2
  go_ret
  exact ⟨rfl, HX.out.below⟩
end Go.Proofs.YtmfehobpbpkcaaaDoor
