/- Layer 14: what package check is said to do, whatever it is made of; law 14's own few, least, known. -/
import Derived.Test.YtdaiooelglablaaDoorMb
import Derived.Test.YtdaiooelglablaaDoorLq
import Derived.Deep.CutBlock
import Derived.WalkSpells
namespace Go.Proofs.YtdaiooelglablaaDoor
open Go.RowKit Go.WideShapes
set_option linter.unusedVariables false
structure CheckSpec (Q : World → Prop) : Prop where
  check : ∀ (w : World) (m : Mx.M) (a : Ma), Q w → MIn w m a → Mx.Small m → Mx.Wf m → Ob.Looks Tryd.prog 11 #[mV m a] w (.tuple #[.int .i64 (Lq.check m).1, .int .i64 (Lq.check m).2])
  units : ∀ (w : World) (m : Mx.M) (a : Ma) (bits : Int), Q w → MIn w m a → Mx.Small m → Mx.Wf m → (Lit.int .i64 bits).wf = true → Ob.Looks Tryd.prog 15 #[mV m a, .int .i64 bits] w (.int .i64 (Lq.units m.unit bits))
  step : ∀ (w : World) (m : Mx.M) (a : Ma), Q w → MIn w m a → Mx.Small m → Mx.Wf m → Ob.Looks Tryd.prog 17 #[mV m a] w (.int .i64 (Lq.step m))
  meet : ∀ (w : World) (m : Mx.M) (a : Ma) (i j : Int), Q w → MIn w m a → Mx.Small m → Mx.Wf m → (Lit.int .i64 i).wf = true → (Lit.int .i64 j).wf = true → Ob.Looks Tryd.prog 13 #[mV m a, .int .i64 i, .int .i64 j] w (.bool (Lq.meet m i j))
set_option maxRecDepth 100000 in
set_option maxHeartbeats 1000000 in
theorem few14_any (w : World) (m : Mx.M) (a : Ma) : Ob.Looks Tryd.prog 10 #[mV m a] w (.bool (Mx.few m)) := by
  have HR : RowT 27 (w.alloc (.cells (mCs m a) 27)) w.heap.size (mCs m a) := RowT.new _ _ _
  obtain ⟨_, _, _, _, _, _, _, _, x8, x9, x10⟩ := HR.mat
  unfold Ob.Looks
  show Calls _ _ #[.agg (mCs m a)] _ _
  generalize mCs m a = cs at x8 x9 x10 ⊢
  clear HR
  unfold Mx.few
  generalize m.masters.length = n1 at x8 ⊢
  generalize m.messages.length = n2 at x9 ⊢
  generalize m.windows.length = n3 at x10 ⊢
  by_cases h1 : n1 ≤ 10
  · have i1 : (n1 : Int) ≤ 10 := by omega
    by_cases h2 : n2 ≤ 20
    · have i2 : (n2 : Int) ≤ 20 := by omega
      by_cases h3 : n3 ≤ 25
      · have i3 : (n3 : Int) ≤ 25 := by omega
        go_enter Tryd.func10, Tryd.ntmps10
        go_wp2
        go_ret
        exact ⟨by simp_all, (Below.refl _ _).alloc (Nat.le_refl _) _⟩
      · have i3 : ¬ ((n3 : Int) ≤ 25) := by omega
        go_enter Tryd.func10, Tryd.ntmps10
        go_wp2
        go_ret
        exact ⟨by simp_all, (Below.refl _ _).alloc (Nat.le_refl _) _⟩
    · have i2 : ¬ ((n2 : Int) ≤ 20) := by omega
      go_enter Tryd.func10, Tryd.ntmps10
      go_wp2
      go_ret
      exact ⟨by simp_all, (Below.refl _ _).alloc (Nat.le_refl _) _⟩
  · have i1 : ¬ ((n1 : Int) ≤ 10) := by omega
    go_enter Tryd.func10, Tryd.ntmps10
    go_wp2
    go_ret
    exact ⟨by simp_all, (Below.refl _ _).alloc (Nat.le_refl _) _⟩
/-- Three lists of one's own. -/
structure Ow (B : Nat) (w : World) (m : Mx.M) (a : Ma) : Prop where
  o1 : Sg.OL 3 1 B w a.s1 a.c1 m.masters.length (m.masters.flatMap mC1)
  o2 : Sg.OL 42 3 B w a.s2 a.c2 m.messages.length (m.messages.flatMap mC2)
  o3 : Sg.OL 40 6 B w a.s3 a.c3 m.windows.length (m.windows.flatMap mC3)
theorem Mb.of {W w : World} {m : Mx.M} {a : Ma} (h : Ow W.heap.size w m a) (hb : Below W.heap.size W w) : Mb W (w.alloc (.cells (mCs m a) 27)) w.heap.size m a := by
  have hb2 : Below w.heap.size w (w.alloc (.cells (mCs m a) 27)) := (Below.refl _ _).alloc (Nat.le_refl _) _
  exact ⟨hb.trans (hb2.mono hb.size), hb.size, RowT.new _ _ _, h.o1.on hb2, h.o2.on hb2, h.o3.on hb2⟩
theorem Ow.mono {B B' : Nat} {w : World} {m : Mx.M} {a : Ma} (h : Ow B w m a) (hB : B' ≤ B) : Ow B' w m a := ⟨h.o1.mono hB, h.o2.mono hB, h.o3.mono hB⟩
def Mx.l14 : Mx.M := ⟨1, 2, 2, 400, 2, 16, 0, 8, [0], [⟨99, 1, false⟩], []⟩
set_option maxRecDepth 100000 in
set_option maxHeartbeats 4000000 in
theorem least14_any (w : World) : Calls Tryd.prog 19 #[] w fun e w' => ∃ a, e = .returned (mV Mx.l14 a) ∧ Ow w.heap.size w' Mx.l14 a ∧ Below w.heap.size w w' := by
  go_enter Tryd.func19, Tryd.ntmps19
  go_wp2
  have hs : ∀ (w : World) o, (w.alloc o).heap.size = w.heap.size + 1 := fun w o => by simp
  refine bodyPost_ret (v := mV Mx.l14 ⟨some ⟨w.heap.size + 1, 0, none⟩, 1, some ⟨w.heap.size + 1 + 1, 0, none⟩, 1, none, 0⟩) (by simp [results, Tryd.results19, go_sem, mV, mCs, Mx.l14]) rfl ⟨_, rfl, ⟨?_, ?_, Sg.OL.nil _ _ _ _⟩, (((Below.refl _ _).alloc (Nat.le_refl _) _).alloc (by simp) _).alloc (by simp; omega) _⟩
  · have := fun o1 => Mb.ol_lit 3 1 w.heap.size (w.alloc o1) 1 [.int .i64 0] rfl (by simp) (by decide)
    simp only [hs] at this
    exact (this _).on ((Below.refl _ _).alloc (Nat.le_refl _) _)
  · have := fun o1 o2 => Mb.ol_lit 42 3 w.heap.size ((w.alloc o1).alloc o2) 1 [.int .u32 99, .int .i64 1, .bool false] rfl (by simp; omega) (by decide)
    simp only [hs] at this
    exact this _ _
def Mx.k14a : Mx.M := { Mx.l14 with windows := [⟨1, 40, 80, 0, 1, 0⟩, ⟨3, 79, 81, 0, 1, 0⟩] }
def Mx.k14b : Mx.M := { Mx.l14 with windows := [⟨1, 40, 80, 0, 1, 0⟩, ⟨3, 80, 81, 0, 1, 0⟩] }
def Mx.k14c : Mx.M := { Mx.k14b with masters := [0, 0] }
theorem ck0 : Lq.check Mx.l14 = (0, 0) := by decide
theorem ck1 : Lq.check Mx.k14a = (1, 143) := by decide
theorem ck2 : Lq.check Mx.k14b = (0, 0) := by decide
theorem ck3 : Lq.check Mx.k14c = (1, 142) := by decide
theorem ck4 : Lq.units Mx.k14c.unit 140 = 36 := by decide
theorem ck5 : Lq.step Mx.k14c = 38 := by decide
theorem ck6 : Lq.meet Mx.k14c 0 1 = false := by decide
theorem wf14 (m : Mx.M) (h : Mx.is m = true) : Mx.Wf m := Mx.wf_is h
set_option maxRecDepth 100000 in
set_option maxHeartbeats 4000000 in
theorem known14_any {Q : World → Prop} (hQ : ∀ w w', Q w → Below w.heap.size w w' → Q w') (S : CheckSpec Q) (W : World) (hW : Q W) : Calls Tryd.prog 9 #[] W fun e w' => e = .returned (.bool true) ∧ Below W.heap.size W w' := by
  have HQ : Hid (∀ w, Below W.heap.size W w → Q w) := fun w hb => hQ W w hW hb
  have HCk : Hid (∀ (w : World) (p : Nat) (m : Mx.M) (a : Ma) (x : Int × Int), Mb W w p m a → Mx.is m = true → Lq.check m = x → Calls Tryd.prog 11 #[mV m a] w fun e w' => e = .returned (.tuple #[.int .i64 x.1, .int .i64 x.2]) ∧ Below w.heap.size w w') := fun w p m a x h hi hx => by subst hx; exact S.check w m a (HQ.out _ h.bel) h.mem (Mx.small_is hi) (Mx.wf_is hi)
  clear hW hQ
  go_enter Tryd.func9, Tryd.ntmps9
  go_wp2_with fail
  refine (least14_any W).mono ?_
  rintro e w1 ⟨a, rfl, hO, hb⟩
  have HX : Hid (Mb W (w1.alloc (.cells #[.int .i64 Mx.l14.level, .int .i64 Mx.l14.nodes, .int .i64 Mx.l14.cycles, .int .i64 Mx.l14.length, .int .i64 Mx.l14.enable, .int .i64 Mx.l14.unit, .int .i64 Mx.l14.init, .int .u32 (Mx.l14.ref : Int), .slice a.s1 Mx.l14.masters.length a.c1, .slice a.s2 Mx.l14.messages.length a.c2, .slice a.s3 Mx.l14.windows.length a.c3] 27)) w1.heap.size Mx.l14 a) := Mb.of hO hb
  clear hO hb
  dsimp only [mV, mCs]
  go_upto_region 2 with fail
  generalize w1.alloc (.cells #[.int .i64 Mx.l14.level, .int .i64 Mx.l14.nodes, .int .i64 Mx.l14.cycles, .int .i64 Mx.l14.length, .int .i64 Mx.l14.enable, .int .i64 Mx.l14.unit, .int .i64 Mx.l14.init, .int .u32 (Mx.l14.ref : Int), .slice a.s1 Mx.l14.masters.length a.c1, .slice a.s2 Mx.l14.messages.length a.c2, .slice a.s3 Mx.l14.windows.length a.c3] 27) = v1 at HX ⊢
  generalize w1.heap.size = p at HX ⊢
  obtain ⟨y0, y1, y2, y3, y4, y5, y6, y7, y8, y9, y10⟩ := HX.out.row.mat
  go_wp2_with fail
  refine (HCk.out _ p _ _ _ HX.out (by decide) ck0).mono ?_
  rintro e w2 ⟨rfl, hb⟩
  replace HX : Hid (Mb W w2 p Mx.l14 a) := HX.out.on hb
  clear y0 y1 y10 y2 y3 y4 y5 y6 y7 y8 y9
  clear hb
  obtain ⟨y0, y1, y2, y3, y4, y5, y6, y7, y8, y9, y10⟩ := HX.out.row.mat
  have qk : ∀ o, (w2.alloc o).cell? ⟨p, 10, none⟩ = some _ := fun o => (HX.out.al o).row.c 10 _ rfl
  have fk : ∀ o, (w2.alloc o).frozen? ⟨p, 10, none⟩ = false := fun o => (HX.out.al o).row.f 10
  replace HX : Hid (Mb W ((w2.alloc (.cells #[.int .i64 1, .int .i64 40, .int .i64 80, .int .i64 0, .int .i64 1, .int .i64 0, .int .i64 3, .int .i64 79, .int .i64 81, .int .i64 0, .int .i64 1, .int .i64 0] 40)).setCell ⟨p, 10, none⟩ (.slice (some ⟨w2.heap.size, 0, none⟩) 2 2)) p Mx.k14a { a with s3 := some ⟨w2.heap.size, 0, none⟩, c3 := 2 }) := (HX.out.al _).put3 (xs := [⟨1, 40, 80, 0, 1, 0⟩, ⟨3, 79, 81, 0, 1, 0⟩]) (Mb.ol_lit 40 6 W.heap.size w2 2 _ rfl HX.out.bel.size (by decide)) rfl
  go_upto_region 4 with fail
  clear y0 y1 y10 y2 y3 y4 y5 y6 y7 y8 y9
  generalize (w2.alloc (.cells #[.int .i64 1, .int .i64 40, .int .i64 80, .int .i64 0, .int .i64 1, .int .i64 0, .int .i64 3, .int .i64 79, .int .i64 81, .int .i64 0, .int .i64 1, .int .i64 0] 40)).setCell ⟨p, 10, none⟩ (.slice (some ⟨w2.heap.size, 0, none⟩) 2 2) = v2 at HX ⊢
  generalize w2.heap.size = gW at HX ⊢
  clear qk fk
  obtain ⟨y0, y1, y2, y3, y4, y5, y6, y7, y8, y9, y10⟩ := HX.out.row.mat
  go_wp2_with fail
  refine (HCk.out _ p _ _ _ HX.out (by decide) ck1).mono ?_
  rintro e w3 ⟨rfl, hb⟩
  replace HX : Hid (Mb W w3 p Mx.k14a { a with s3 := some ⟨gW, 0, none⟩, c3 := 2 }) := HX.out.on hb
  clear y0 y1 y10 y2 y3 y4 y5 y6 y7 y8 y9
  clear hb
  obtain ⟨y0, y1, y2, y3, y4, y5, y6, y7, y8, y9, y10⟩ := HX.out.row.mat
  have q7 : w3.cell? ⟨gW, 7, none⟩ = some (.int .i64 79) := by
    rcases HX.out.o3.sl.2.2.2 with h0 | ⟨g, o, e, _, hc, _⟩
    · cases h0
    · injection e with e
      injection e with e1 e2
      subst e1 e2
      exact hc 7 _ rfl
  have f7 : w3.frozen? ⟨gW, 7, none⟩ = false := by
    rcases HX.out.o3.sl.2.2.2 with h0 | ⟨g, o, e, _, _, hr⟩
    · cases h0
    · injection e with e
      injection e with e1 e2
      subst e1 e2
      exact (hr 7 (show 7 < 2 * 6 by decide)).2
  replace HX : Hid (Mb W (w3.setCell ⟨gW, 7, none⟩ (.int .i64 80)) p Mx.k14b { a with s3 := some ⟨gW, 0, none⟩, c3 := 2 }) := HX.out.set3 (xs := [⟨1, 40, 80, 0, 1, 0⟩, ⟨3, 80, 81, 0, 1, 0⟩]) rfl 7 _ (by decide) rfl rfl
  go_upto_region 6 with fail
  clear y0 y1 y10 y2 y3 y4 y5 y6 y7 y8 y9
  generalize w3.setCell ⟨gW, 7, none⟩ (.int .i64 80) = v3 at HX ⊢
  clear q7 f7
  obtain ⟨y0, y1, y2, y3, y4, y5, y6, y7, y8, y9, y10⟩ := HX.out.row.mat
  go_wp2_with fail
  refine (HCk.out _ p _ _ _ HX.out (by decide) ck2).mono ?_
  rintro e w4 ⟨rfl, hb⟩
  replace HX : Hid (Mb W w4 p Mx.k14b { a with s3 := some ⟨gW, 0, none⟩, c3 := 2 }) := HX.out.on hb
  clear y0 y1 y10 y2 y3 y4 y5 y6 y7 y8 y9
  clear hb
  obtain ⟨y0, y1, y2, y3, y4, y5, y6, y7, y8, y9, y10⟩ := HX.out.row.mat
  have qk : ∀ o, (w4.alloc o).cell? ⟨p, 8, none⟩ = some _ := fun o => (HX.out.al o).row.c 8 _ rfl
  have fk : ∀ o, (w4.alloc o).frozen? ⟨p, 8, none⟩ = false := fun o => (HX.out.al o).row.f 8
  replace HX : Hid (Mb W ((w4.alloc (.cells #[.int .i64 0, .int .i64 0] 3)).setCell ⟨p, 8, none⟩ (.slice (some ⟨w4.heap.size, 0, none⟩) 2 2)) p Mx.k14c { a with s3 := some ⟨gW, 0, none⟩, c3 := 2, s1 := some ⟨w4.heap.size, 0, none⟩, c1 := 2 }) := (HX.out.al _).put1 (xs := [0, 0]) (Mb.ol_lit 3 1 W.heap.size w4 2 _ rfl HX.out.bel.size (by decide)) rfl
  go_upto_region 8 with fail
  clear y0 y1 y10 y2 y3 y4 y5 y6 y7 y8 y9
  generalize (w4.alloc (.cells #[.int .i64 0, .int .i64 0] 3)).setCell ⟨p, 8, none⟩ (.slice (some ⟨w4.heap.size, 0, none⟩) 2 2) = v4 at HX ⊢
  generalize w4.heap.size = gM at HX ⊢
  clear qk fk
  obtain ⟨y0, y1, y2, y3, y4, y5, y6, y7, y8, y9, y10⟩ := HX.out.row.mat
  go_wp2_with fail
  refine (HCk.out _ p _ _ _ HX.out (by decide) ck3).mono ?_
  rintro e w5 ⟨rfl, hb⟩
  replace HX : Hid (Mb W w5 p Mx.k14c { a with s3 := some ⟨gW, 0, none⟩, c3 := 2, s1 := some ⟨gM, 0, none⟩, c1 := 2 }) := HX.out.on hb
  clear y0 y1 y10 y2 y3 y4 y5 y6 y7 y8 y9
  clear hb
  obtain ⟨y0, y1, y2, y3, y4, y5, y6, y7, y8, y9, y10⟩ := HX.out.row.mat
  have hu := S.units w5 _ _ 140 (HQ.out _ HX.out.bel) HX.out.mem (Mx.small_is (by decide)) (Mx.wf_is (by decide)) (wfi (by omega))
  rw [ck4] at hu
  go_wp2_with fail
  refine (hu).mono ?_
  rintro e w6 ⟨rfl, hb⟩
  replace HX : Hid (Mb W w6 p Mx.k14c { a with s3 := some ⟨gW, 0, none⟩, c3 := 2, s1 := some ⟨gM, 0, none⟩, c1 := 2 }) := HX.out.on hb
  clear y0 y1 y10 y2 y3 y4 y5 y6 y7 y8 y9
  clear hb
  obtain ⟨y0, y1, y2, y3, y4, y5, y6, y7, y8, y9, y10⟩ := HX.out.row.mat
  have hu := S.step w6 _ _ (HQ.out _ HX.out.bel) HX.out.mem (Mx.small_is (by decide)) (Mx.wf_is (by decide))
  rw [ck5] at hu
  go_wp2_with fail
  refine (hu).mono ?_
  rintro e w7 ⟨rfl, hb⟩
  replace HX : Hid (Mb W w7 p Mx.k14c { a with s3 := some ⟨gW, 0, none⟩, c3 := 2, s1 := some ⟨gM, 0, none⟩, c1 := 2 }) := HX.out.on hb
  clear y0 y1 y10 y2 y3 y4 y5 y6 y7 y8 y9
  clear hb
  obtain ⟨y0, y1, y2, y3, y4, y5, y6, y7, y8, y9, y10⟩ := HX.out.row.mat
  have hu := S.meet w7 _ _ 0 1 (HQ.out _ HX.out.bel) HX.out.mem (Mx.small_is (by decide)) (Mx.wf_is (by decide)) (wfi (by omega)) (wfi (by omega))
  rw [ck6] at hu
  go_wp2_with fail
  refine (hu).mono ?_
  rintro e w8 ⟨rfl, hb⟩
  replace HX : Hid (Mb W w8 p Mx.k14c { a with s3 := some ⟨gW, 0, none⟩, c3 := 2, s1 := some ⟨gM, 0, none⟩, c1 := 2 }) := HX.out.on hb
  clear y0 y1 y10 y2 y3 y4 y5 y6 y7 y8 y9
  clear hb
  go_wp2
  go_ret
  exact ⟨rfl, HX.out.bel⟩
end Go.Proofs.YtdaiooelglablaaDoor
