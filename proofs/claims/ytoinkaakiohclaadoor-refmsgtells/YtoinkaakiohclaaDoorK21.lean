/- Layer 21: law 21's own few, least, known. -/
import Derived.Test.YtoinkaakiohclaaDoorA21
import Derived.Test.YtoinkaakiohclaaDoorU2
import Derived.WalkArith
import Derived.Test.YtoinkaakiohclaaDoorBc
import Derived.Test.YtoinkaakiohclaaDoorMb
import Derived.Deep.CutBlock
import Derived.WalkSpells
namespace Go.Proofs.YtoinkaakiohclaaDoor
open Go.RowKit Go.WideShapes
set_option linter.unusedVariables false
set_option maxRecDepth 100000 in
set_option maxHeartbeats 1000000 in
theorem few21_any (w : World) (m : Mx.M) (a : Ma) : Ob.Looks Tryd.prog 8 #[mV m a] w (.bool (Mx.few m)) := by
  have HR : RowT 27 (w.alloc (.cells (mCs m a) 27)) w.heap.size (mCs m a) := RowT.new _ _ _
  obtain ⟨_, _, _, _, _, _, _, _, x8, x9, x10⟩ := HR.mat
  unfold Ob.Looks
  show Calls _ _ #[.agg (mCs m a)] _ _
  generalize mCs m a = cs at x8 x9 x10 ⊢
  clear HR
  unfold Mx.few
  generalize m.masters.length = n1 at x8 ⊢
  generalize m.messages.length = n2 at x9 ⊢
  generalize m.windows.length = n3 at x10 ⊢
  by_cases h1 : n1 ≤ 10
  · have i1 : (n1 : Int) ≤ 10 := by omega
    by_cases h2 : n2 ≤ 20
    · have i2 : (n2 : Int) ≤ 20 := by omega
      by_cases h3 : n3 ≤ 25
      · have i3 : (n3 : Int) ≤ 25 := by omega
        go_enter Tryd.func8, Tryd.ntmps8
        go_wp2
        go_ret
        exact ⟨by simp_all, (Below.refl _ _).alloc (Nat.le_refl _) _⟩
      · have i3 : ¬ ((n3 : Int) ≤ 25) := by omega
        go_enter Tryd.func8, Tryd.ntmps8
        go_wp2
        go_ret
        exact ⟨by simp_all, (Below.refl _ _).alloc (Nat.le_refl _) _⟩
    · have i2 : ¬ ((n2 : Int) ≤ 20) := by omega
      go_enter Tryd.func8, Tryd.ntmps8
      go_wp2
      go_ret
      exact ⟨by simp_all, (Below.refl _ _).alloc (Nat.le_refl _) _⟩
  · have i1 : ¬ ((n1 : Int) ≤ 10) := by omega
    go_enter Tryd.func8, Tryd.ntmps8
    go_wp2
    go_ret
    exact ⟨by simp_all, (Below.refl _ _).alloc (Nat.le_refl _) _⟩
def Mx.l21 : Mx.M := ⟨2, 2, 2, 200, 1, 16, 0, 16, [0, 1], [], []⟩
set_option maxRecDepth 100000 in
set_option maxHeartbeats 4000000 in
theorem least21_any (w : World) : Calls Tryd.prog 16 #[] w fun e w' => ∃ a, e = .returned (mV Mx.l21 a) ∧ MIn w' Mx.l21 a ∧ Below w.heap.size w w' := by
  go_enter Tryd.func16, Tryd.ntmps16
  go_wp2
  have hs : ∀ (w : World) o, (w.alloc o).heap.size = w.heap.size + 1 := fun w o => by simp
  refine bodyPost_ret (v := mV Mx.l21 ⟨some ⟨w.heap.size + 1, 0, none⟩, 2, none, 0, none, 0⟩) (by simp [results, Tryd.results16, go_sem, mV, mCs, Mx.l21]) rfl ⟨_, rfl, ⟨?_, ⟨Nat.le_refl _, Nat.zero_le _, Or.inl rfl⟩, ⟨Nat.le_refl _, Nat.zero_le _, Or.inl rfl⟩⟩, ((Below.refl _ _).alloc (Nat.le_refl _) _).alloc (by simp) _⟩
  have := fun o1 => Mb.ol_lit 3 1 w.heap.size (w.alloc o1) 2 [.int .i64 0, .int .i64 1] rfl (by simp) (by decide)
  simp only [hs] at this
  exact (this _).sl.li
theorem Q21.k1 : Q21.build Mx.l21 1 1 4660 true = some (17, ⟨#[1, 1, 18, 52]⟩) := by decide +kernel
theorem Q21.k2 : Q21.parse Mx.l21 false 17 false ⟨#[1, 1, 18, 52]⟩ = some ⟨1, 1, 4660, true⟩ := by decide +kernel
theorem Q21.k3 : Q21.build Mx.l21 2 0 0 false = none := by decide +kernel
theorem l21_is : Mx.is Mx.l21 = true := by decide
set_option maxRecDepth 100000 in
set_option maxHeartbeats 4000000 in
theorem known21_any {Q : World → Prop} (hQ : ∀ w w', Q w → Below w.heap.size w w' → Q w') (S : RefSpec Q) (W : World) (hW : Q W) : Calls Tryd.prog 7 #[] W fun e w' => e = .returned (.bool true) ∧ Below W.heap.size W w' := by
  have HBd : Hid (∀ (w : World) (p : Nat) (a : Ma) (rank cycle : Int) (g : Nat) (d : Bool) (r : Option (Nat × ByteArray)), Bx W w p Mx.l21 a → (Lit.int .i64 rank).wf = true → (Lit.int .i64 cycle).wf = true → g < 65536 → Q21.build Mx.l21 rank cycle g d = r → Calls Tryd.prog 9 #[mV Mx.l21 a, .int .i64 rank, .int .i64 cycle, .int .u16 (g : Int), .bool d] w fun e w' => e = .returned (bV r) ∧ Below w.heap.size w w') := fun w p a rank cycle g d r h h1 h2 hg hr => by subst hr; exact S.build w Mx.l21 a rank cycle g d (hQ W w hW h.below) h.mem (Mx.small_is l21_is) (Mx.wf_is l21_is) h1 h2 hg
  have HPa : Hid (∀ (w : World) (p : Nat) (a : Ma) (r : Option Q21.Bt), Bx W w p Mx.l21 a → Q21.parse Mx.l21 false 17 false ⟨#[1, 1, 18, 52]⟩ = r → Calls Tryd.prog 11 #[mV Mx.l21 a, .agg #[.bool false, .int .u32 17, .bool false, .string ⟨#[1, 1, 18, 52]⟩]] w fun e w' => e = .returned (btV r) ∧ Below w.heap.size w w') := fun w p a r h hr => by subst hr; exact S.parse w Mx.l21 a false 17 false ⟨#[1, 1, 18, 52]⟩ (hQ W w hW h.below) h.mem (Mx.small_is l21_is) (Mx.wf_is l21_is) (by decide) (by decide)
  clear hW hQ
  go_enter Tryd.func7, Tryd.ntmps7
  go_wp2_with fail
  refine (least21_any W).mono ?_
  rintro e w1 ⟨a, rfl, hO, hb⟩
  have HX : Hid (Bx W (w1.alloc (.cells #[.int .i64 Mx.l21.level, .int .i64 Mx.l21.nodes, .int .i64 Mx.l21.cycles, .int .i64 Mx.l21.length, .int .i64 Mx.l21.enable, .int .i64 Mx.l21.unit, .int .i64 Mx.l21.init, .int .u32 (Mx.l21.ref : Int), .slice a.s1 Mx.l21.masters.length a.c1, .slice a.s2 Mx.l21.messages.length a.c2, .slice a.s3 Mx.l21.windows.length a.c3] 27)) w1.heap.size Mx.l21 a) := Bx.make hb hO
  clear hO hb
  dsimp only [mV, mCs]
  go_upto_region 2 with fail
  generalize w1.alloc (.cells #[.int .i64 Mx.l21.level, .int .i64 Mx.l21.nodes, .int .i64 Mx.l21.cycles, .int .i64 Mx.l21.length, .int .i64 Mx.l21.enable, .int .i64 Mx.l21.unit, .int .i64 Mx.l21.init, .int .u32 (Mx.l21.ref : Int), .slice a.s1 Mx.l21.masters.length a.c1, .slice a.s2 Mx.l21.messages.length a.c2, .slice a.s3 Mx.l21.windows.length a.c3] 27) = v1 at HX ⊢
  generalize w1.heap.size = p at HX ⊢
  obtain ⟨y0, y1, y2, y3, y4, y5, y6, y7, y8, y9, y10⟩ := HX.out.row.mat
  go_wp2_with fail
  refine (HBd.out _ p a 1 1 4660 true _ HX.out (by decide) (by decide) (by decide) Q21.k1).mono ?_
  rintro e w2 ⟨rfl, hb⟩
  simp only [bV]
  replace HX : Hid (Bx W (w2.alloc (.cells #[.bool false, .int .u32 17, .bool false, .string ⟨#[1, 1, 18, 52]⟩] 30)) p Mx.l21 a) := (HX.out.on hb).al _
  have HF1 : Hid (RowT 30 (w2.alloc (.cells #[.bool false, .int .u32 17, .bool false, .string ⟨#[1, 1, 18, 52]⟩] 30)) w2.heap.size #[.bool false, .int .u32 17, .bool false, .string ⟨#[1, 1, 18, 52]⟩]) := RowT.new _ _ _
  clear hb y0 y1 y2 y3 y4 y5 y6 y7 y8 y9 y10
  go_upto_region 3 with fail
  generalize w2.alloc (.cells #[.bool false, .int .u32 17, .bool false, .string ⟨#[1, 1, 18, 52]⟩] 30) = v2 at HX HF1 ⊢
  generalize w2.heap.size = g1 at HF1 ⊢
  obtain ⟨y0, y1, y2, y3, y4, y5, y6, y7, y8, y9, y10⟩ := HX.out.row.mat
  have c0 := HF1.out.c 0 _ rfl
  have c1 := HF1.out.c 1 _ rfl
  have c2 := HF1.out.c 2 _ rfl
  have c3 := HF1.out.c 3 _ rfl
  go_wp2_with fail
  refine (HPa.out _ p a _ HX.out Q21.k2).mono ?_
  rintro e w3 ⟨rfl, hb⟩
  simp only [btV]
  replace HX : Hid (Bx W (w3.alloc (.cells #[.int .i64 1, .int .i64 1, .int .u16 4660, .bool true] 36)) p Mx.l21 a) := (HX.out.on hb).al _
  replace HF1 : Hid (RowT 30 (w3.alloc (.cells #[.int .i64 1, .int .i64 1, .int .u16 4660, .bool true] 36)) g1 #[.bool false, .int .u32 17, .bool false, .string ⟨#[1, 1, 18, 52]⟩]) := (RowT.on HF1.out hb).on ((Below.refl _ _).alloc (Nat.le_refl _) _)
  have HB1 : Hid (RowT 36 (w3.alloc (.cells #[.int .i64 1, .int .i64 1, .int .u16 4660, .bool true] 36)) w3.heap.size #[.int .i64 1, .int .i64 1, .int .u16 4660, .bool true]) := RowT.new _ _ _
  clear hb y0 y1 y2 y3 y4 y5 y6 y7 y8 y9 y10 c0 c1 c2 c3
  go_upto_region 4 with fail
  generalize w3.alloc (.cells #[.int .i64 1, .int .i64 1, .int .u16 4660, .bool true] 36) = v3 at HX HF1 HB1 ⊢
  generalize w3.heap.size = g2 at HB1 ⊢
  obtain ⟨y0, y1, y2, y3, y4, y5, y6, y7, y8, y9, y10⟩ := HX.out.row.mat
  go_wp2_with fail
  refine (HBd.out _ p a 2 0 0 false _ HX.out (by decide) (by decide) (by decide) Q21.k3).mono ?_
  rintro e w4 ⟨rfl, hb⟩
  simp only [bV]
  replace HX : Hid (Bx W (w4.alloc (.cells #[.bool false, .int .u32 0, .bool false, .string ByteArray.empty] 30)) p Mx.l21 a) := (HX.out.on hb).al _
  replace HF1 : Hid (RowT 30 (w4.alloc (.cells #[.bool false, .int .u32 0, .bool false, .string ByteArray.empty] 30)) g1 #[.bool false, .int .u32 17, .bool false, .string ⟨#[1, 1, 18, 52]⟩]) := (RowT.on HF1.out hb).on ((Below.refl _ _).alloc (Nat.le_refl _) _)
  replace HB1 : Hid (RowT 36 (w4.alloc (.cells #[.bool false, .int .u32 0, .bool false, .string ByteArray.empty] 30)) g2 #[.int .i64 1, .int .i64 1, .int .u16 4660, .bool true]) := (RowT.on HB1.out hb).on ((Below.refl _ _).alloc (Nat.le_refl _) _)
  clear hb y0 y1 y2 y3 y4 y5 y6 y7 y8 y9 y10
  go_upto_region 5 with fail
  generalize w4.alloc (.cells #[.bool false, .int .u32 0, .bool false, .string ByteArray.empty] 30) = v4 at HX HF1 HB1 ⊢
  have c0 := HF1.out.c 0 _ rfl
  have c1 := HF1.out.c 1 _ rfl
  have c2 := HF1.out.c 2 _ rfl
  have c3 := HF1.out.c 3 _ rfl
  have d0 := HB1.out.c 0 _ rfl
  have d1 := HB1.out.c 1 _ rfl
  have d2 := HB1.out.c 2 _ rfl
  have d3 := HB1.out.c 3 _ rfl
  go_wp2
  go_ret
  exact ⟨rfl, HX.out.below⟩
end Go.Proofs.YtoinkaakiohclaaDoor
