/- CheckOne: one thing spoilt in a matrix that passes is told, by its own error; for every matrix of few entries and every two bytes (other matrices are let by); no condition. -/
import Derived.Test.YtdaiooelglablaaDoorL6
import Derived.Test.YtdaiooelglablaaDoorLr
import Derived.Test.YtdaiooelglablaaDoorMe
import Derived.ProofKit
import Derived.OpenShut
namespace Go.Proofs.YtdaiooelglablaaDoor.checkOne
open Go.ChangeShapes Go.WideShapes Go.ChangeAt Go.RowKit
set_option linter.unusedVariables false
variable {Q : World → Prop}
theorem natU8n {x : Int} (h : (Lit.int .u8 x).wf = true) : ∃ n : Nat, x = (n : Int) ∧ n < 256 := by
  obtain ⟨h1, h2⟩ := bounds_u8 h
  obtain ⟨n, rfl⟩ := Int.eq_ofNat_of_zero_le h1
  exact ⟨n, rfl, by omega⟩
theorem wf_level {m : Mx.M} (h : Mx.Wf m) : Mx.Wf { m with level := 3 } := { h with level := rfl }
set_option maxRecDepth 100000 in
set_option maxHeartbeats 16000000 in
theorem walkA (hQ : ∀ w w', Q w → Below w.heap.size w w' → Q w') (S : CheckSpec Q) (m : Mx.M) (a : Ma) {W0 : World} (hm : MIn W0 m a) (hwf : Mx.Wf m) (c0 : Int) (w0 : (Lit.int .u8 c0).wf = true) (d0 : Int) (w1 : (Lit.int .u8 d0).wf = true) (W : World) (hw0 : W = W0) (hW : Q W) :
    Calls Tryd.prog 5 #[mV m a, .int .u8 c0, .int .u8 d0] W fun e w' => e = .returned (.bool true) ∧ Below W.heap.size W w' := by
  subst hw0
  have HQ : Hid (∀ w, Below W.heap.size W w → Q w) := fun w hb => hQ W w hW hb
  have HK : Hid (∀ w, Below W.heap.size W w → Calls Tryd.prog 9 #[] w fun e w' => e = .returned (.bool true) ∧ Below w.heap.size w w') := fun w hb => known14_any hQ S w (HQ.out _ hb)
  obtain ⟨c0, rfl, b0⟩ := natU8n w0
  obtain ⟨d0, rfl, b1⟩ := natU8n w1
  have HX : Hid (Bx W (W.alloc (.cells (mCs m a) 27)) W.heap.size m a) := Bx.mk' hm
  have HM0 : Hid (MIn W m a) := hm
  have HWf : Hid (Mx.Wf m) := hwf
  obtain ⟨N, hN⟩ : ∃ N : Nat, c0 % 5 = N := ⟨_, rfl⟩
  have iN : (c0 : Int) % 5 = (N : Int) := by omega
  have uN : N < 5 := by omega
  clear hm hwf hQ hW w0 w1 hN
  go_enter Tryd.func5, Tryd.ntmps5
  go_wp2_with fail
  refine (HK.out _ HX.out.below).mono ?_
  rintro e w1 ⟨rfl, hb⟩
  replace HX : Hid (Bx W w1 W.heap.size m a) := HX.out.on hb
  clear hb HK
  obtain ⟨y0, y1, y2, y3, y4, y5, y6, y7, y8, y9, y10⟩ := HX.out.row.mat
  go_wp2_with fail
  refine (few14_any w1 m a).mono ?_
  rintro e w2 ⟨rfl, hb⟩
  replace HX : Hid (Bx W w2 W.heap.size m a) := HX.out.on hb
  clear y0 y1 y10 y2 y3 y4 y5 y6 y7 y8 y9
  clear hb
  cases hfw : Mx.few m
  · go_wp2
    go_ret
    exact ⟨rfl, HX.out.below⟩
  have HS : Hid (Mx.Small m) := Mx.few_small hfw
  obtain ⟨y0, y1, y2, y3, y4, y5, y6, y7, y8, y9, y10⟩ := HX.out.row.mat
  go_wp2_with fail
  refine (S.check w2 m a (HQ.out _ HX.out.below) HX.out.mem HS.out HWf.out).mono ?_
  rintro e w3 ⟨rfl, hb⟩
  replace HX : Hid (Bx W w3 W.heap.size m a) := HX.out.on hb
  clear y0 y1 y10 y2 y3 y4 y5 y6 y7 y8 y9
  clear hb
  by_cases e0 : (Lq.check m).2 = 0
  rotate_left
  · have e1 : ((Lq.check m).2 == 0) = false := beq_eq_false_iff_ne.2 e0
    generalize (Lq.check m).1 = C1 at *
    generalize (Lq.check m).2 = C2 at *
    go_wp2
    go_ret
    exact ⟨rfl, HX.out.below⟩
  have HP : Hid (Lq.Passes m) := Lq.passes_of e0
  rw [e0]
  generalize (Lq.check m).1 = C1 at *
  clear e0 hfw
  have HCk : Hid (∀ (w : World) (q : Nat) (n : Mx.M) (b : Ma) (x : Int × Int), Mb W w q n b → Mx.is n = true → Lq.check n = x → Calls Tryd.prog 11 #[mV n b] w fun e w' => e = .returned (.tuple #[.int .i64 x.1, .int .i64 x.2]) ∧ Below w.heap.size w w') := fun w q n b x h hi hx => by subst hx; exact S.check w n b (HQ.out _ h.bel) h.mem (Mx.small_is hi) (Mx.wf_is hi)
  have HCl : Hid (∀ (w : World) (q : Nat) (b : Ma), Mb W w q { m with level := 3 } b → Calls Tryd.prog 11 #[mV { m with level := 3 } b] w fun e w' => e = .returned (.tuple #[.int .i64 0, .int .i64 120]) ∧ Below w.heap.size w w') := fun w q b h => by
    have := S.check w _ b (HQ.out _ h.bel) h.mem ⟨HS.out.a, HS.out.b, HS.out.c⟩ (wf_level HWf.out)
    rw [Lq.one1 HP.out] at this
    exact this
  have hlen := Lq.lens_of (Lq.is_parts HP.out.is).2.1
  obtain ⟨lr1, lr2, lm1, lm2, lg, lw⟩ := hlen
  have hnd : m.nodes ≤ 8 := (Lq.cyc_of HP.out.is).2.2.2.2.2.2.2.2.2.2
  have hnd0 : 1 ≤ m.nodes := (Lq.cyc_of HP.out.is).2.2.2.2.2.2.2.2.2.1
  have HS1 : Hid (∀ w', Below W.heap.size W w' → Src Tryd.prog 1 23 (.slice a.s1 m.masters.length a.c1) m.masters.length (m.masters.flatMap mC1) w') := fun w' hb => Sg.src_li Tryd.underlying23 (HM0.out.l1.on hb) (flat_len (f := mC1) (sz := 1) (fun _ => rfl) _) (flat_one1 _)
  have HS2 : Hid (∀ w', Below W.heap.size W w' → Src Tryd.prog 3 24 (.slice a.s2 m.messages.length a.c2) m.messages.length (m.messages.flatMap mC2) w') := fun w' hb => Sg.src_li Tryd.underlying24 (HM0.out.l2.on hb) (flat_len (f := mC2) (sz := 3) (fun _ => rfl) _) (flat_one2 _)
  have HS3 : Hid (∀ w', Below W.heap.size W w' → Src Tryd.prog 6 25 (.slice a.s3 m.windows.length a.c3) m.windows.length (m.windows.flatMap mC3) w') := fun w' hb => Sg.src_li Tryd.underlying25 (HM0.out.l3.on hb) (flat_len (f := mC3) (sz := 6) (fun _ => rfl) _) (flat_one3 _)
  clear HM0
  obtain ⟨y0, y1, y2, y3, y4, y5, y6, y7, y8, y9, y10⟩ := HX.out.row.mat
  have HN : Hid (Nq W (w3.alloc (.cells #[.int .i64 m.level, .int .i64 m.nodes, .int .i64 m.cycles, .int .i64 m.length, .int .i64 m.enable, .int .i64 m.unit, .int .i64 m.init, .int .u32 (m.ref : Int), .slice a.s1 m.masters.length a.c1, .slice a.s2 m.messages.length a.c2, .slice a.s3 m.windows.length a.c3] 27)) w3.heap.size m a a 0) := ⟨HX.out.below.alloc HX.out.below.size _, HX.out.row.on ((Below.refl _ _).alloc (Nat.le_refl _) _), HX.out.row.lt, RowT.new _ _ _, fun k => by omega, fun k => by omega, fun k => by omega⟩
  go_upto_region 9 with fail
  clear y0 y1 y10 y2 y3 y4 y5 y6 y7 y8 y9
  generalize w3.alloc (.cells #[.int .i64 m.level, .int .i64 m.nodes, .int .i64 m.cycles, .int .i64 m.length, .int .i64 m.enable, .int .i64 m.unit, .int .i64 m.init, .int .u32 (m.ref : Int), .slice a.s1 m.masters.length a.c1, .slice a.s2 m.messages.length a.c2, .slice a.s3 m.windows.length a.c3] 27) = v0 at HN ⊢
  generalize w3.heap.size = q at HN ⊢
  clear HX
  obtain ⟨_, _, _, _, _, _, _, _, y8, _, _⟩ := HN.out.rp.mat
  go_upto_region 10 with (refine Sg.wpList_appendO Mb.elI rfl (.const (.slice none 0 0)) (.tmp 34) 23 rfl rfl rfl (Sg.OL.nil 3 1 W.heap.size _) HN.out.bel.size (HS1.out _ HN.out.bel) (show 0 + m.masters.length ≤ 1000000 by omega) ?_; intro s1 k1 n1 u1 hn h1 hk; rw [Nat.zero_add] at hn; subst hn; rw [List.nil_append] at h1; have HNx : Hid (Nq W u1 q m a a 0) := HN.out.on (Mb.kept0 hk); have x8 := HNx.out.row.c 8 _ rfl; have f8 := HNx.out.row.f 8; have HNy : Hid (Nq W (u1.setCell ⟨q, 8, none⟩ (.slice s1 m.masters.length k1)) q m a ⟨s1, k1, a.s2, a.c2, a.s3, a.c3⟩ 1) := HNx.out.put1 h1; clear HN h1 hk y8 HNx)
  generalize u1.setCell ⟨q, 8, none⟩ (.slice s1 m.masters.length k1) = v1 at HNy ⊢
  clear x8 f8
  have HN := HNy
  clear HNy
  obtain ⟨_, _, _, _, _, _, _, _, _, y9, _⟩ := HN.out.rp.mat
  go_upto_region 11 with (refine Sg.wpList_appendO Mb.elG rfl (.const (.slice none 0 0)) (.tmp 38) 24 rfl rfl rfl (Sg.OL.nil 42 3 W.heap.size _) HN.out.bel.size (HS2.out _ HN.out.bel) (show 0 + m.messages.length ≤ 1000000 by omega) ?_; intro s2 k2 n2 u2 hn h1 hk; rw [Nat.zero_add] at hn; subst hn; rw [List.nil_append] at h1; have HNx : Hid (Nq W u2 q m a ⟨s1, k1, a.s2, a.c2, a.s3, a.c3⟩ 1) := HN.out.on (Mb.kept0 hk); have x9 := HNx.out.row.c 9 _ rfl; have f9 := HNx.out.row.f 9; have HNy : Hid (Nq W (u2.setCell ⟨q, 9, none⟩ (.slice s2 m.messages.length k2)) q m a ⟨s1, k1, s2, k2, a.s3, a.c3⟩ 2) := HNx.out.put2 h1; clear HN h1 hk y9 HNx)
  generalize u2.setCell ⟨q, 9, none⟩ (.slice s2 m.messages.length k2) = v2 at HNy ⊢
  clear x9 f9
  have HN := HNy
  clear HNy
  obtain ⟨_, _, _, _, _, _, _, _, _, _, y10⟩ := HN.out.rp.mat
  go_upto_region 12 with (refine Sg.wpList_appendO Mb.elW rfl (.const (.slice none 0 0)) (.tmp 42) 25 rfl rfl rfl (Sg.OL.nil 40 6 W.heap.size _) HN.out.bel.size (HS3.out _ HN.out.bel) (show 0 + m.windows.length ≤ 1000000 by omega) ?_; intro s3 k3 n3 u3 hn h1 hk; rw [Nat.zero_add] at hn; subst hn; rw [List.nil_append] at h1; have HNx : Hid (Nq W u3 q m a ⟨s1, k1, s2, k2, a.s3, a.c3⟩ 2) := HN.out.on (Mb.kept0 hk); have x10 := HNx.out.row.c 10 _ rfl; have f10 := HNx.out.row.f 10; have HNy : Hid (Nq W (u3.setCell ⟨q, 10, none⟩ (.slice s3 m.windows.length k3)) q m a ⟨s1, k1, s2, k2, s3, k3⟩ 3) := HNx.out.put3 h1; clear HN h1 hk y10 HNx)
  generalize u3.setCell ⟨q, 10, none⟩ (.slice s3 m.windows.length k3) = v3 at HNy ⊢
  clear x10 f10
  have HN := HNy
  clear HNy
  clear HS1 HS2 HS3
  have HB : Hid (Mb W v3 q m ⟨s1, k1, s2, k2, s3, k3⟩) := HN.out.mb
  have HRp : Hid (RowT 27 v3 W.heap.size (mCs m a)) := HN.out.rp
  clear HN
  have wd : IntKind.i64.wrap (d0 : Int) = (d0 : Int) := by rw [IntKind.wrap_i64]; omega
  have hN5 : N = 0 ∨ N = 1 ∨ N = 2 ∨ N = 3 ∨ N = 4 := by omega
  rcases hN5 with rfl | rfl | rfl | rfl | rfl
  · skip
    obtain ⟨k, hk⟩ : ∃ k : Nat, d0 % m.masters.length = k := ⟨_, rfl⟩
    have kl : k < m.masters.length := by rw [← hk]; exact Nat.mod_lt _ (by omega)
    have ik : (d0 : Int) % (m.masters.length : Int) = (k : Int) := by rw [← hk]; simp
    have kI : (k : Int) < (m.masters.length : Int) := by omega
    have n0 : (m.masters.length : Int) ≠ 0 := by omega
    have mne : ¬ m.masters = [] := fun e => by rw [e] at kl; cases kl
    have itm : (d0 : Int).tmod (m.masters.length : Int) = (k : Int) := by rw [Int.tmod_eq_emod_of_nonneg (by omega)]; exact ik
    obtain ⟨h1i, h1c⟩ := Lq.one0 HP.out kl
    have HAn : Hid (Mx.is { m with masters := m.masters.set k m.nodes } = true ∧ Lq.check { m with masters := m.masters.set k m.nodes } = ((k : Int), 141)) := ⟨h1i, h1c⟩
    clear h1i h1c hk HCl
    obtain ⟨g1, p1, cur, rfl, hh, hce, hfr⟩ := Mb.elem HB.out.o1 (by omega)
    obtain ⟨x, hx⟩ : ∃ x, m.masters[k]? = some x := ⟨_, List.getElem?_eq_getElem kl⟩
    have c1 : v3.cell? ⟨g1, p1 + k, none⟩ = some (.int .i64 x) := hce _ _ (by have := flat_at (f := mC1) (sz := 1) (fun _ => rfl) hx (j := 0) rfl; rwa [Nat.mul_one, Nat.add_zero] at this)
    have f1 : v3.frozen? ⟨g1, p1 + k, none⟩ = false := hfr k
    have HY : Hid (Mb W (v3.setCell ⟨g1, p1 + k, none⟩ (.int .i64 m.nodes)) q { m with masters := m.masters.set k m.nodes } ⟨some ⟨g1, p1, none⟩, k1, s2, k2, s3, k3⟩) := HB.out.set1 rfl k _ (by rw [flat_len (f := mC1) (sz := 1) (fun _ => rfl)]; omega) (by have := flat_set (f := mC1) (sz := 1) (fun _ => rfl) m.masters k x m.nodes 0 (.int .i64 m.nodes) hx (by omega) rfl; rwa [Nat.mul_one, Nat.add_zero] at this) (by rw [List.length_set])
    have HYd : Hid (Mb W ((v3.setCell ⟨g1, p1 + k, none⟩ (.int .i64 m.nodes)).drew) q { m with masters := m.masters.set k m.nodes } ⟨some ⟨g1, p1, none⟩, k1, s2, k2, s3, k3⟩) := HY.out.on (Below.refl _ _).drew
    have c1d : v3.drew.cell? ⟨g1, p1 + k, none⟩ = some (.int .i64 x) := c1
    have f1d : v3.drew.frozen? ⟨g1, p1 + k, none⟩ = false := f1
    clear HY hce hfr hh hx c1 f1
    go_upto_region 14 with fail
    refine Hm.start [11] (fun w' => RowT 27 w' q (mCs m ⟨some ⟨g1, p1, none⟩, k1, s2, k2, s3, k3⟩) ∧ RowT 27 w' W.heap.size (mCs m a)) (by kernel_rfl) ⟨HB.out.row.on (Below.refl _ _).drew, HRp.out.on (Below.refl _ _).drew⟩ (fun hHeld => ?_)
    refine Hm.takeM (i := 0) (d := 49) (v := ?_) rfl (by kernel_rfl) (by kernel_rfl) (by kernel_rfl) (by kernel_rfl) (by kernel_rfl) (by kernel_rfl) (fun _ _ _ h => h) (by rfl) ?_ (by first | assumption | trivial) ?_
    rotate_left
    · intro w hSw; have z8 := hSw.1.mat.2.2.2.2.2.2.2.2.1; have z1 := hSw.2.mat.2.1; dsimp only at z8; go_simp; (try with_reducible rfl)
    simp only [Act.put, List.setIfInBounds_toArray, List.set_cons_zero, List.set_cons_succ]
    refine Hm.takeM (i := 1) (d := 50) (v := ?_) rfl (by kernel_rfl) (by kernel_rfl) (by kernel_rfl) (by kernel_rfl) (by kernel_rfl) (by kernel_rfl) (fun _ _ _ h => h) (by rfl) ?_ (by first | assumption | trivial) ?_
    rotate_left
    · intro w hSw; have z8 := hSw.1.mat.2.2.2.2.2.2.2.2.1; have z1 := hSw.2.mat.2.1; dsimp only at z8; go_simp; (try with_reducible rfl)
    simp only [Act.put, List.setIfInBounds_toArray, List.set_cons_zero, List.set_cons_succ]
    refine Hm.takeM (i := 2) (d := 51) (v := ?_) rfl (by kernel_rfl) (by kernel_rfl) (by kernel_rfl) (by kernel_rfl) (by kernel_rfl) (by kernel_rfl) (fun _ _ _ h => h) (by rfl) ?_ (by first | assumption | trivial) ?_
    rotate_left
    · intro w hSw; have z8 := hSw.1.mat.2.2.2.2.2.2.2.2.1; have z1 := hSw.2.mat.2.1; dsimp only at z8; go_simp; (try with_reducible rfl)
    simp only [Act.put, List.setIfInBounds_toArray, List.set_cons_zero, List.set_cons_succ]
    refine Hm.takeM (i := 3) (d := 52) (v := ?_) rfl (by kernel_rfl) (by kernel_rfl) (by kernel_rfl) (by kernel_rfl) (by kernel_rfl) (by kernel_rfl) (fun _ _ _ h => h) (by rfl) ?_ (by first | assumption | trivial) ?_
    rotate_left
    · intro w hSw; have z8 := hSw.1.mat.2.2.2.2.2.2.2.2.1; have z1 := hSw.2.mat.2.1; dsimp only at z8; go_simp; (try with_reducible rfl)
    simp only [Act.put, List.setIfInBounds_toArray, List.set_cons_zero, List.set_cons_succ]
    refine Hm.takeM (i := 4) (d := 53) (v := ?_) rfl (by kernel_rfl) (by kernel_rfl) (by kernel_rfl) (by kernel_rfl) (by kernel_rfl) (by kernel_rfl) (fun _ _ _ h => h) (by rfl) ?_ (by first | assumption | trivial) ?_
    rotate_left
    · intro w hSw; have z8 := hSw.1.mat.2.2.2.2.2.2.2.2.1; have z1 := hSw.2.mat.2.1; dsimp only at z8; go_simp; (try with_reducible rfl)
    simp only [Act.put, List.setIfInBounds_toArray, List.set_cons_zero, List.set_cons_succ]
    refine Hm.takeM (i := 5) (d := 54) (v := ?_) rfl (by kernel_rfl) (by kernel_rfl) (by kernel_rfl) (by kernel_rfl) (by kernel_rfl) (by kernel_rfl) (fun _ _ _ h => h) (by rfl) ?_ (by first | assumption | trivial) ?_
    rotate_left
    · intro w hSw; have z8 := hSw.1.mat.2.2.2.2.2.2.2.2.1; have z1 := hSw.2.mat.2.1; dsimp only at z8; go_simp; (try with_reducible rfl)
    simp only [Act.put, List.setIfInBounds_toArray, List.set_cons_zero, List.set_cons_succ]
    refine Hm.takeM (i := 6) (d := 55) (v := ?_) rfl (by kernel_rfl) (by kernel_rfl) (by kernel_rfl) (by kernel_rfl) (by kernel_rfl) (by kernel_rfl) (fun _ _ _ h => h) (by rfl) ?_ (by first | assumption | trivial) ?_
    rotate_left
    · intro w hSw; have z8 := hSw.1.mat.2.2.2.2.2.2.2.2.1; have z1 := hSw.2.mat.2.1; dsimp only at z8; go_simp; (try with_reducible rfl)
    simp only [Act.put, List.setIfInBounds_toArray, List.set_cons_zero, List.set_cons_succ]
    refine Hm.takeM (i := 7) (d := 56) (v := ?_) rfl (by kernel_rfl) (by kernel_rfl) (by kernel_rfl) (by kernel_rfl) (by kernel_rfl) (by kernel_rfl) (fun _ _ _ h => h) (by rfl) ?_ (by first | assumption | trivial) ?_
    rotate_left
    · intro w hSw; have z8 := hSw.1.mat.2.2.2.2.2.2.2.2.1; have z1 := hSw.2.mat.2.1; dsimp only at z8; go_simp; (try with_reducible rfl)
    simp only [Act.put, List.setIfInBounds_toArray, List.set_cons_zero, List.set_cons_succ]
    refine Hm.takeM (i := 8) (d := 57) (v := ?_) rfl (by kernel_rfl) (by kernel_rfl) (by kernel_rfl) (by kernel_rfl) (by kernel_rfl) (by kernel_rfl) (fun _ _ _ h => h) (by rfl) ?_ (by first | assumption | trivial) ?_
    rotate_left
    · intro w hSw; have z8 := hSw.1.mat.2.2.2.2.2.2.2.2.1; have z1 := hSw.2.mat.2.1; dsimp only at z8; go_simp; (try with_reducible rfl)
    simp only [Act.put, List.setIfInBounds_toArray, List.set_cons_zero, List.set_cons_succ]
    refine Hm.takeM (i := 9) (d := 58) (v := ?_) rfl (by kernel_rfl) (by kernel_rfl) (by kernel_rfl) (by kernel_rfl) (by kernel_rfl) (by kernel_rfl) (fun _ _ _ h => h) (by rfl) ?_ (by first | assumption | trivial) ?_
    rotate_left
    · intro w hSw; have z8 := hSw.1.mat.2.2.2.2.2.2.2.2.1; have z1 := hSw.2.mat.2.1; dsimp only at z8; go_simp; (try with_reducible rfl)
    simp only [Act.put, List.setIfInBounds_toArray, List.set_cons_zero, List.set_cons_succ]
    refine Hm.takeM (i := 10) (d := 59) (v := ?_) rfl (by kernel_rfl) (by kernel_rfl) (by kernel_rfl) (by kernel_rfl) (by kernel_rfl) (by kernel_rfl) (fun _ _ _ h => h) (by rfl) ?_ (by first | assumption | trivial) ?_
    rotate_left
    · intro w hSw; have z8 := hSw.1.mat.2.2.2.2.2.2.2.2.1; have z1 := hSw.2.mat.2.1; dsimp only at z8; go_simp; (try with_reducible rfl)
    simp only [Act.put, List.setIfInBounds_toArray, List.set_cons_zero, List.set_cons_succ]
    refine Hm.consF (i := 11) rfl (by kernel_rfl) (by rfl) (fun K' hK' => ?_)
    go_simp
    refine hK'.out _ _ ?_
    clear hK' K' hHeld
    refine Hm.done (by kernel_rfl) ?_ _
    generalize (v3.setCell ⟨g1, p1 + k, none⟩ (.int .i64 m.nodes)).drew = v4 at HYd ⊢
    clear c1d f1d HB HRp
    have HCn : Hid (Calls Tryd.prog 11 #[.agg #[.int .i64 m.level, .int .i64 m.nodes, .int .i64 m.cycles, .int .i64 m.length, .int .i64 m.enable, .int .i64 m.unit, .int .i64 m.init, .int .u32 (m.ref : Int), .slice (some ⟨g1, p1, none⟩) m.masters.length k1, .slice s2 m.messages.length k2, .slice s3 m.windows.length k3]] v4 fun e w' => e = .returned (.tuple #[.int .i64 (k : Int), .int .i64 141]) ∧ Below v4.heap.size v4 w') := by
      have := HCk.out v4 q { m with masters := m.masters.set k m.nodes } ⟨(some ⟨g1, p1, none⟩), k1, s2, k2, s3, k3⟩ _ HYd.out HAn.out.1 HAn.out.2
      dsimp only [mV, mCs] at this
      rw [List.length_set] at this
      exact this
    obtain ⟨y0, y1, y2, y3, y4, y5, y6, y7, y8, y9, y10⟩ := HYd.out.row.mat
    dsimp only at y0 y1 y2 y3 y4 y5 y6 y7 y8 y9 y10
    rw [List.length_set] at y8
    clear HCk HAn
    go_wp2_with fail
    refine HCn.out.mono ?_
    rintro e v5 ⟨rfl, hb⟩
    replace HYd : Hid (Mb W v5 q { m with masters := m.masters.set k m.nodes } ⟨some ⟨g1, p1, none⟩, k1, s2, k2, s3, k3⟩) := HYd.out.on hb
    clear hb y0 y1 y2 y3 y4 y5 y6 y7 y8 y9 y10 HCn
    have y8 : v5.cell? ⟨q, 8, none⟩ = some (.slice (some ⟨g1, p1, none⟩) m.masters.length k1) := by
      have := HYd.out.row.mat.2.2.2.2.2.2.2.2.1
      dsimp only at this
      rwa [List.length_set] at this
    go_wp2
    go_ret
    exact ⟨by first | rfl | simp, HYd.out.bel⟩
  · skip
    have q0 : v3.cell? ⟨q, 0, none⟩ = some (.int .i64 m.level) := HB.out.row.c 0 _ rfl
    have f0 := HB.out.row.f 0
    have HY : Hid (Mb W (v3.setCell ⟨q, 0, none⟩ (.int .i64 3)) q { m with level := 3 } ⟨s1, k1, s2, k2, s3, k3⟩) := HB.out.word 0 _ rfl rfl rfl rfl
    go_upto_region 19 with fail
    generalize v3.setCell ⟨q, 0, none⟩ (.int .i64 3) = v4 at HY ⊢
    clear q0 f0 HB HRp HCk
    obtain ⟨y0, y1, y2, y3, y4, y5, y6, y7, y8, y9, y10⟩ := HY.out.row.mat
    go_wp2_with fail
    refine (HCl.out _ q _ HY.out).mono ?_
    rintro e v5 ⟨rfl, hb⟩
    replace HY : Hid (Mb W v5 q { m with level := 3 } ⟨s1, k1, s2, k2, s3, k3⟩) := HY.out.on hb
    clear y0 y1 y10 y2 y3 y4 y5 y6 y7 y8 y9
    clear hb
    go_wp2
    go_ret
    exact ⟨rfl, HY.out.bel⟩
  · skip
    have y8 := HB.out.row.mat.2.2.2.2.2.2.2.2.1
    dsimp only at y8
    by_cases hfull : m.masters.length = 4
    · have hf2 : ((m.masters.length : Int) == 4) = true := beq_iff_eq.2 (by omega)
      go_wp2
      go_ret
      exact ⟨rfl, HB.out.bel⟩
    have hf2 : ((m.masters.length : Int) == 4) = false := beq_eq_false_iff_ne.2 (by omega)
    obtain ⟨k, hk⟩ : ∃ k : Nat, d0 % m.masters.length = k := ⟨_, rfl⟩
    have kl : k < m.masters.length := by rw [← hk]; exact Nat.mod_lt _ (by omega)
    have ik : (d0 : Int) % (m.masters.length : Int) = (k : Int) := by rw [← hk]; simp
    have kI : (k : Int) < (m.masters.length : Int) := by omega
    have n0 : (m.masters.length : Int) ≠ 0 := by omega
    have mne : ¬ m.masters = [] := fun e => by rw [e] at kl; cases kl
    have itm : (d0 : Int).tmod (m.masters.length : Int) = (k : Int) := by rw [Int.tmod_eq_emod_of_nonneg (by omega)]; exact ik
    obtain ⟨x, hx⟩ : ∃ x, m.masters[k]? = some x := ⟨_, List.getElem?_eq_getElem kl⟩
    obtain ⟨h1i, h1c⟩ := Lq.one2 HP.out hx (by omega)
    have HAn : Hid (Mx.is { m with masters := m.masters ++ [x] } = true ∧ Lq.check { m with masters := m.masters ++ [x] } = ((m.masters.length : Int), 142)) := ⟨h1i, h1c⟩
    clear h1i h1c hk HCl
    obtain ⟨g1, p1, cur, rfl, hh, hce, hfr⟩ := Mb.elem HB.out.o1 (by omega)
    have HE : Hid (v3.cell? ⟨g1, p1 + k, none⟩ = some (.int .i64 x)) := hce _ _ (by have := flat_at (f := mC1) (sz := 1) (fun _ => rfl) hx (j := 0) rfl; rwa [Nat.mul_one, Nat.add_zero] at this)
    have hg1 : g1 < v3.heap.size := (Array.getElem?_eq_some_iff.1 hh).1
    have HEon : Hid (∀ w', Below v3.heap.size v3 w' → w'.cell? ⟨g1, p1 + k, none⟩ = some (.int .i64 x)) := fun w' hb => (hb.cell (p := ⟨g1, p1 + k, none⟩) hg1).trans HE.out
    clear hce hfr hh HE
    go_upto_region 24 with fail
    refine Hm.start [13, 15] (fun w' => Below v3.heap.size v3 w') (by kernel_rfl) (Below.refl _ _).drew (fun hHeld => ?_)
    refine Hm.takeM (i := 0) (d := 93) (v := ?_) rfl (by kernel_rfl) (by kernel_rfl) (by kernel_rfl) (by kernel_rfl) (by kernel_rfl) (by kernel_rfl) (fun _ _ _ h => h) (by rfl) ?_ (by first | assumption | trivial) ?_
    rotate_left
    · intro w hSw; have z8 := (HB.out.row.on hSw).mat.2.2.2.2.2.2.2.2.1; dsimp only at z8; have e0 := HEon.out _ hSw; go_simp; (try with_reducible rfl)
    simp only [Act.put, List.setIfInBounds_toArray, List.set_cons_zero, List.set_cons_succ]
    refine Hm.takeM (i := 1) (d := 94) (v := ?_) rfl (by kernel_rfl) (by kernel_rfl) (by kernel_rfl) (by kernel_rfl) (by kernel_rfl) (by kernel_rfl) (fun _ _ _ h => h) (by rfl) ?_ (by first | assumption | trivial) ?_
    rotate_left
    · intro w hSw; have z8 := (HB.out.row.on hSw).mat.2.2.2.2.2.2.2.2.1; dsimp only at z8; have e0 := HEon.out _ hSw; go_simp; (try with_reducible rfl)
    simp only [Act.put, List.setIfInBounds_toArray, List.set_cons_zero, List.set_cons_succ]
    refine Hm.takeM (i := 2) (d := 95) (v := ?_) rfl (by kernel_rfl) (by kernel_rfl) (by kernel_rfl) (by kernel_rfl) (by kernel_rfl) (by kernel_rfl) (fun _ _ _ h => h) (by rfl) ?_ (by first | assumption | trivial) ?_
    rotate_left
    · intro w hSw; have z8 := (HB.out.row.on hSw).mat.2.2.2.2.2.2.2.2.1; dsimp only at z8; have e0 := HEon.out _ hSw; go_simp; (try with_reducible rfl)
    simp only [Act.put, List.setIfInBounds_toArray, List.set_cons_zero, List.set_cons_succ]
    refine Hm.takeM (i := 3) (d := 96) (v := ?_) rfl (by kernel_rfl) (by kernel_rfl) (by kernel_rfl) (by kernel_rfl) (by kernel_rfl) (by kernel_rfl) (fun _ _ _ h => h) (by rfl) ?_ (by first | assumption | trivial) ?_
    rotate_left
    · intro w hSw; have z8 := (HB.out.row.on hSw).mat.2.2.2.2.2.2.2.2.1; dsimp only at z8; have e0 := HEon.out _ hSw; go_simp; (try with_reducible rfl)
    simp only [Act.put, List.setIfInBounds_toArray, List.set_cons_zero, List.set_cons_succ]
    refine Hm.takeM (i := 4) (d := 97) (v := ?_) rfl (by kernel_rfl) (by kernel_rfl) (by kernel_rfl) (by kernel_rfl) (by kernel_rfl) (by kernel_rfl) (fun _ _ _ h => h) (by rfl) ?_ (by first | assumption | trivial) ?_
    rotate_left
    · intro w hSw; have z8 := (HB.out.row.on hSw).mat.2.2.2.2.2.2.2.2.1; dsimp only at z8; have e0 := HEon.out _ hSw; go_simp; (try with_reducible rfl)
    simp only [Act.put, List.setIfInBounds_toArray, List.set_cons_zero, List.set_cons_succ]
    refine Hm.takeM (i := 5) (d := 98) (v := ?_) rfl (by kernel_rfl) (by kernel_rfl) (by kernel_rfl) (by kernel_rfl) (by kernel_rfl) (by kernel_rfl) (fun _ _ _ h => h) (by rfl) ?_ (by first | assumption | trivial) ?_
    rotate_left
    · intro w hSw; have z8 := (HB.out.row.on hSw).mat.2.2.2.2.2.2.2.2.1; dsimp only at z8; have e0 := HEon.out _ hSw; go_simp; (try with_reducible rfl)
    simp only [Act.put, List.setIfInBounds_toArray, List.set_cons_zero, List.set_cons_succ]
    refine Hm.takeM (i := 6) (d := 99) (v := ?_) rfl (by kernel_rfl) (by kernel_rfl) (by kernel_rfl) (by kernel_rfl) (by kernel_rfl) (by kernel_rfl) (fun _ _ _ h => h) (by rfl) ?_ (by first | assumption | trivial) ?_
    rotate_left
    · intro w hSw; have z8 := (HB.out.row.on hSw).mat.2.2.2.2.2.2.2.2.1; dsimp only at z8; have e0 := HEon.out _ hSw; go_simp; (try with_reducible rfl)
    simp only [Act.put, List.setIfInBounds_toArray, List.set_cons_zero, List.set_cons_succ]
    refine Hm.takeM (i := 7) (d := 100) (v := ?_) rfl (by kernel_rfl) (by kernel_rfl) (by kernel_rfl) (by kernel_rfl) (by kernel_rfl) (by kernel_rfl) (fun _ _ _ h => h) (by rfl) ?_ (by first | assumption | trivial) ?_
    rotate_left
    · intro w hSw; have z8 := (HB.out.row.on hSw).mat.2.2.2.2.2.2.2.2.1; dsimp only at z8; have e0 := HEon.out _ hSw; go_simp; (try with_reducible rfl)
    simp only [Act.put, List.setIfInBounds_toArray, List.set_cons_zero, List.set_cons_succ]
    refine Hm.takeM (i := 8) (d := 101) (v := ?_) rfl (by kernel_rfl) (by kernel_rfl) (by kernel_rfl) (by kernel_rfl) (by kernel_rfl) (by kernel_rfl) (fun _ _ _ h => h) (by rfl) ?_ (by first | assumption | trivial) ?_
    rotate_left
    · intro w hSw; have z8 := (HB.out.row.on hSw).mat.2.2.2.2.2.2.2.2.1; dsimp only at z8; have e0 := HEon.out _ hSw; go_simp; (try with_reducible rfl)
    simp only [Act.put, List.setIfInBounds_toArray, List.set_cons_zero, List.set_cons_succ]
    refine Hm.takeM (i := 9) (d := 102) (v := ?_) rfl (by kernel_rfl) (by kernel_rfl) (by kernel_rfl) (by kernel_rfl) (by kernel_rfl) (by kernel_rfl) (fun _ _ _ h => h) (by rfl) ?_ (by first | assumption | trivial) ?_
    rotate_left
    · intro w hSw; have z8 := (HB.out.row.on hSw).mat.2.2.2.2.2.2.2.2.1; dsimp only at z8; have e0 := HEon.out _ hSw; go_simp; (try with_reducible rfl)
    simp only [Act.put, List.setIfInBounds_toArray, List.set_cons_zero, List.set_cons_succ]
    refine Hm.takeM (i := 10) (d := 103) (v := ?_) rfl (by kernel_rfl) (by kernel_rfl) (by kernel_rfl) (by kernel_rfl) (by kernel_rfl) (by kernel_rfl) (fun _ _ _ h => h) (by rfl) ?_ (by first | assumption | trivial) ?_
    rotate_left
    · intro w hSw; have z8 := (HB.out.row.on hSw).mat.2.2.2.2.2.2.2.2.1; dsimp only at z8; have e0 := HEon.out _ hSw; go_simp; (try with_reducible rfl)
    simp only [Act.put, List.setIfInBounds_toArray, List.set_cons_zero, List.set_cons_succ]
    refine Hm.takeM (i := 11) (d := 104) (v := ?_) rfl (by kernel_rfl) (by kernel_rfl) (by kernel_rfl) (by kernel_rfl) (by kernel_rfl) (by kernel_rfl) (fun _ _ _ h => h) (by rfl) ?_ (by first | assumption | trivial) ?_
    rotate_left
    · intro w hSw; have z8 := (HB.out.row.on hSw).mat.2.2.2.2.2.2.2.2.1; dsimp only at z8; have e0 := HEon.out _ hSw; go_simp; (try with_reducible rfl)
    simp only [Act.put, List.setIfInBounds_toArray, List.set_cons_zero, List.set_cons_succ]
    refine Hm.consS (i := 12) rfl (by kernel_rfl) (fun K' hK' => ?_)
    have HSn : Hid (Src Tryd.prog 1 23 (.slice (some ⟨v3.heap.size, 0, none⟩) 1 1) 1 (mC1 x) (v3.drew.alloc (.cells (mC1 x).toArray 3))) := Sg.src_new Tryd.underlying23 v3.drew 3 1 1 _ rfl (fun u hu => flat_one1 [x] u (by simpa using hu))
    have HBn : Hid (Mb W (v3.drew.alloc (.cells (mC1 x).toArray 3)) q m ⟨some ⟨g1, p1, none⟩, k1, s2, k2, s3, k3⟩) := (HB.out.on (Below.refl _ _).drew).al _
    go_simp
    refine hK'.out _ _ (hHeld.alloc (by simp) _) (fun hHeld2 => ?_)
    clear hK' K' hHeld hHeld2
    refine Hm.consF (i := 13) rfl (by kernel_rfl) (by rfl) (fun K' hK' => ?_)
    refine Sg.step_appendO Mb.elI rfl (.tmp 94) (.tmp 105) 23 rfl rfl rfl HBn.out.o1 HBn.out.bel.size HSn.out (show m.masters.length + 1 ≤ 1000000 by omega) ?_
    intro s' k' n' u4 hn h1 hkk
    have HRw : Hid (RowT 27 u4 q (mCs m ⟨some ⟨g1, p1, none⟩, k1, s2, k2, s3, k3⟩)) := HBn.out.row1 hkk
    have x8 := HRw.out.c 8 _ rfl
    have f8 := HRw.out.f 8
    have HY : Hid (Mb W (u4.setCell ⟨q, 8, none⟩ (.slice s' n' k')) q { m with masters := m.masters ++ [x] } ⟨s', k', s2, k2, s3, k3⟩) := HBn.out.app1 (xs := m.masters ++ [x]) hkk (by rw [List.flatMap_append]; simpa using h1) (by rw [List.length_append]; exact hn)
    subst hn
    clear h1 hkk
    refine hK'.out _ _ ?_
    clear hK' K'
    refine Hm.takeY (i := 14) (d := 107) (v := ?_) rfl (by kernel_rfl) (by kernel_rfl) (by kernel_rfl) (fun _ _ _ h => h) (by rfl) ?_ ?_
    rotate_left
    · intro w; go_simp; (try with_reducible rfl)
    simp only [Act.put, List.setIfInBounds_toArray]
    refine Hm.consF (i := 15) rfl (by kernel_rfl) (by rfl) (fun K' hK' => ?_)
    go_simp
    refine hK'.out _ _ ?_
    clear hK' K'
    refine Hm.done (by kernel_rfl) ?_ _
    generalize u4.setCell ⟨q, 8, none⟩ (.slice s' (m.masters.length + 1) k') = v4 at HY ⊢
    clear x8 f8 HB HBn HRp HRw HSn HEon
    have HCn : Hid (Calls Tryd.prog 11 #[.agg #[.int .i64 m.level, .int .i64 m.nodes, .int .i64 m.cycles, .int .i64 m.length, .int .i64 m.enable, .int .i64 m.unit, .int .i64 m.init, .int .u32 (m.ref : Int), .slice s' (m.masters.length + 1) k', .slice s2 m.messages.length k2, .slice s3 m.windows.length k3]] v4 fun e w' => e = .returned (.tuple #[.int .i64 (m.masters.length : Int), .int .i64 142]) ∧ Below v4.heap.size v4 w') := by
      have := HCk.out v4 q { m with masters := m.masters ++ [x] } ⟨s', k', s2, k2, s3, k3⟩ _ HY.out HAn.out.1 HAn.out.2
      dsimp only [mV, mCs] at this
      rw [List.length_append, List.length_singleton] at this
      exact this
    obtain ⟨y0, y1, y2, y3, y4, y5, y6, y7, y8, y9, y10⟩ := HY.out.row.mat
    dsimp only at y0 y1 y2 y3 y4 y5 y6 y7 y8 y9 y10
    rw [List.length_append, List.length_singleton] at y8
    clear HCk HAn
    go_wp2_with fail
    refine HCn.out.mono ?_
    rintro e v5 ⟨rfl, hb⟩
    replace HY : Hid (Mb W v5 q { m with masters := m.masters ++ [x] } ⟨s', k', s2, k2, s3, k3⟩) := HY.out.on hb
    clear hb y0 y1 y2 y3 y4 y5 y6 y7 y8 y9 y10 HCn
    have y8 : v5.cell? ⟨q, 8, none⟩ = some (.slice s' (m.masters.length + 1) k') := by
      have := HY.out.row.mat.2.2.2.2.2.2.2.2.1
      dsimp only at this
      rwa [List.length_append, List.length_singleton] at this
    go_wp2
    go_ret
    exact ⟨by first | rfl | simp, HY.out.bel⟩
  · skip
    have y10 := HB.out.row.mat.2.2.2.2.2.2.2.2.2.2
    dsimp only at y10
    by_cases hnone : m.windows.length = 0
    · have hf2 : ((m.windows.length : Int) == 0) = true := beq_iff_eq.2 (by omega)
      go_wp2
      go_ret
      exact ⟨rfl, HB.out.bel⟩
    have hf2 : ((m.windows.length : Int) == 0) = false := beq_eq_false_iff_ne.2 (by omega)
    by_cases hfull : m.windows.length = 16
    · have hf3 : ((m.windows.length : Int) == 16) = true := beq_iff_eq.2 (by omega)
      go_wp2
      go_ret
      exact ⟨rfl, HB.out.bel⟩
    have hf3 : ((m.windows.length : Int) == 16) = false := beq_eq_false_iff_ne.2 (by omega)
    obtain ⟨k, hk⟩ : ∃ k : Nat, d0 % m.windows.length = k := ⟨_, rfl⟩
    have kl : k < m.windows.length := by rw [← hk]; exact Nat.mod_lt _ (by omega)
    have ik : (d0 : Int) % (m.windows.length : Int) = (k : Int) := by rw [← hk]; simp
    have kI : (k : Int) < (m.windows.length : Int) := by omega
    have n0 : (m.windows.length : Int) ≠ 0 := by omega
    have mne : ¬ m.windows = [] := fun e => by rw [e] at kl; cases kl
    have itm : (d0 : Int).tmod (m.windows.length : Int) = (k : Int) := by rw [Int.tmod_eq_emod_of_nonneg (by omega)]; exact ik
    obtain ⟨x, hx⟩ : ∃ x, m.windows[k]? = some x := ⟨_, List.getElem?_eq_getElem kl⟩
    obtain ⟨h1i, h1c⟩ := Lq.one3 HP.out hx (by omega)
    have HAn : Hid (Mx.is { m with windows := m.windows ++ [x] } = true ∧ Lq.check { m with windows := m.windows ++ [x] } = ((m.windows.length : Int), 143)) := ⟨h1i, h1c⟩
    clear h1i h1c hk HCl
    obtain ⟨g1, p1, cur, rfl, hh, hce, hfr⟩ := Mb.elem HB.out.o3 (by omega)
    have HE : Hid (v3.cell? ⟨g1, p1 + k * 6, none⟩ = some (.int .i64 x.kind) ∧ v3.cell? ⟨g1, p1 + k * 6 + 1, none⟩ = some (.int .i64 x.start) ∧ v3.cell? ⟨g1, p1 + k * 6 + 2, none⟩ = some (.int .i64 x.fin) ∧ v3.cell? ⟨g1, p1 + k * 6 + 3, none⟩ = some (.int .i64 x.cycle) ∧ v3.cell? ⟨g1, p1 + k * 6 + 4, none⟩ = some (.int .i64 x.rep) ∧ v3.cell? ⟨g1, p1 + k * 6 + 5, none⟩ = some (.int .i64 x.msg)) := ⟨by have := hce _ _ (flat_at (f := mC3) (sz := 6) (fun _ => rfl) hx (j := 0) rfl); rwa [Nat.add_zero] at this, by have := hce _ _ (flat_at (f := mC3) (sz := 6) (fun _ => rfl) hx (j := 1) rfl); rwa [← Nat.add_assoc] at this, by have := hce _ _ (flat_at (f := mC3) (sz := 6) (fun _ => rfl) hx (j := 2) rfl); rwa [← Nat.add_assoc] at this, by have := hce _ _ (flat_at (f := mC3) (sz := 6) (fun _ => rfl) hx (j := 3) rfl); rwa [← Nat.add_assoc] at this, by have := hce _ _ (flat_at (f := mC3) (sz := 6) (fun _ => rfl) hx (j := 4) rfl); rwa [← Nat.add_assoc] at this, by have := hce _ _ (flat_at (f := mC3) (sz := 6) (fun _ => rfl) hx (j := 5) rfl); rwa [← Nat.add_assoc] at this⟩
    have hg1 : g1 < v3.heap.size := (Array.getElem?_eq_some_iff.1 hh).1
    have HEon : Hid (∀ w', Below v3.heap.size v3 w' → w'.cell? ⟨g1, p1 + k * 6, none⟩ = some (.int .i64 x.kind) ∧ w'.cell? ⟨g1, p1 + k * 6 + 1, none⟩ = some (.int .i64 x.start) ∧ w'.cell? ⟨g1, p1 + k * 6 + 2, none⟩ = some (.int .i64 x.fin) ∧ w'.cell? ⟨g1, p1 + k * 6 + 3, none⟩ = some (.int .i64 x.cycle) ∧ w'.cell? ⟨g1, p1 + k * 6 + 4, none⟩ = some (.int .i64 x.rep) ∧ w'.cell? ⟨g1, p1 + k * 6 + 5, none⟩ = some (.int .i64 x.msg)) := fun w' hb => ⟨(hb.cell (p := ⟨g1, p1 + k * 6, none⟩) hg1).trans HE.out.1, (hb.cell (p := ⟨g1, p1 + k * 6 + 1, none⟩) hg1).trans HE.out.2.1, (hb.cell (p := ⟨g1, p1 + k * 6 + 2, none⟩) hg1).trans HE.out.2.2.1, (hb.cell (p := ⟨g1, p1 + k * 6 + 3, none⟩) hg1).trans HE.out.2.2.2.1, (hb.cell (p := ⟨g1, p1 + k * 6 + 4, none⟩) hg1).trans HE.out.2.2.2.2.1, (hb.cell (p := ⟨g1, p1 + k * 6 + 5, none⟩) hg1).trans HE.out.2.2.2.2.2⟩
    clear hce hfr hh HE
    go_upto_region 30 with fail
    refine Hm.start [13, 15] (fun w' => Below v3.heap.size v3 w') (by kernel_rfl) (Below.refl _ _).drew (fun hHeld => ?_)
    refine Hm.takeM (i := 0) (d := 135) (v := ?_) rfl (by kernel_rfl) (by kernel_rfl) (by kernel_rfl) (by kernel_rfl) (by kernel_rfl) (by kernel_rfl) (fun _ _ _ h => h) (by rfl) ?_ (by first | assumption | trivial) ?_
    rotate_left
    · intro w hSw; have z8 := (HB.out.row.on hSw).mat.2.2.2.2.2.2.2.2.2.2; dsimp only at z8; obtain ⟨e0, e1, e2, e3, e4, e5⟩ := HEon.out _ hSw; go_simp; (try with_reducible rfl)
    simp only [Act.put, List.setIfInBounds_toArray, List.set_cons_zero, List.set_cons_succ]
    refine Hm.takeM (i := 1) (d := 136) (v := ?_) rfl (by kernel_rfl) (by kernel_rfl) (by kernel_rfl) (by kernel_rfl) (by kernel_rfl) (by kernel_rfl) (fun _ _ _ h => h) (by rfl) ?_ (by first | assumption | trivial) ?_
    rotate_left
    · intro w hSw; have z8 := (HB.out.row.on hSw).mat.2.2.2.2.2.2.2.2.2.2; dsimp only at z8; obtain ⟨e0, e1, e2, e3, e4, e5⟩ := HEon.out _ hSw; go_simp; (try with_reducible rfl)
    simp only [Act.put, List.setIfInBounds_toArray, List.set_cons_zero, List.set_cons_succ]
    refine Hm.takeM (i := 2) (d := 137) (v := ?_) rfl (by kernel_rfl) (by kernel_rfl) (by kernel_rfl) (by kernel_rfl) (by kernel_rfl) (by kernel_rfl) (fun _ _ _ h => h) (by rfl) ?_ (by first | assumption | trivial) ?_
    rotate_left
    · intro w hSw; have z8 := (HB.out.row.on hSw).mat.2.2.2.2.2.2.2.2.2.2; dsimp only at z8; obtain ⟨e0, e1, e2, e3, e4, e5⟩ := HEon.out _ hSw; go_simp; (try with_reducible rfl)
    simp only [Act.put, List.setIfInBounds_toArray, List.set_cons_zero, List.set_cons_succ]
    refine Hm.takeM (i := 3) (d := 138) (v := ?_) rfl (by kernel_rfl) (by kernel_rfl) (by kernel_rfl) (by kernel_rfl) (by kernel_rfl) (by kernel_rfl) (fun _ _ _ h => h) (by rfl) ?_ (by first | assumption | trivial) ?_
    rotate_left
    · intro w hSw; have z8 := (HB.out.row.on hSw).mat.2.2.2.2.2.2.2.2.2.2; dsimp only at z8; obtain ⟨e0, e1, e2, e3, e4, e5⟩ := HEon.out _ hSw; go_simp; (try with_reducible rfl)
    simp only [Act.put, List.setIfInBounds_toArray, List.set_cons_zero, List.set_cons_succ]
    refine Hm.takeM (i := 4) (d := 139) (v := ?_) rfl (by kernel_rfl) (by kernel_rfl) (by kernel_rfl) (by kernel_rfl) (by kernel_rfl) (by kernel_rfl) (fun _ _ _ h => h) (by rfl) ?_ (by first | assumption | trivial) ?_
    rotate_left
    · intro w hSw; have z8 := (HB.out.row.on hSw).mat.2.2.2.2.2.2.2.2.2.2; dsimp only at z8; obtain ⟨e0, e1, e2, e3, e4, e5⟩ := HEon.out _ hSw; go_simp; (try with_reducible rfl)
    simp only [Act.put, List.setIfInBounds_toArray, List.set_cons_zero, List.set_cons_succ]
    refine Hm.takeM (i := 5) (d := 140) (v := ?_) rfl (by kernel_rfl) (by kernel_rfl) (by kernel_rfl) (by kernel_rfl) (by kernel_rfl) (by kernel_rfl) (fun _ _ _ h => h) (by rfl) ?_ (by first | assumption | trivial) ?_
    rotate_left
    · intro w hSw; have z8 := (HB.out.row.on hSw).mat.2.2.2.2.2.2.2.2.2.2; dsimp only at z8; obtain ⟨e0, e1, e2, e3, e4, e5⟩ := HEon.out _ hSw; go_simp; (try with_reducible rfl)
    simp only [Act.put, List.setIfInBounds_toArray, List.set_cons_zero, List.set_cons_succ]
    refine Hm.takeM (i := 6) (d := 141) (v := ?_) rfl (by kernel_rfl) (by kernel_rfl) (by kernel_rfl) (by kernel_rfl) (by kernel_rfl) (by kernel_rfl) (fun _ _ _ h => h) (by rfl) ?_ (by first | assumption | trivial) ?_
    rotate_left
    · intro w hSw; have z8 := (HB.out.row.on hSw).mat.2.2.2.2.2.2.2.2.2.2; dsimp only at z8; obtain ⟨e0, e1, e2, e3, e4, e5⟩ := HEon.out _ hSw; go_simp; (try with_reducible rfl)
    simp only [Act.put, List.setIfInBounds_toArray, List.set_cons_zero, List.set_cons_succ]
    refine Hm.takeM (i := 7) (d := 142) (v := ?_) rfl (by kernel_rfl) (by kernel_rfl) (by kernel_rfl) (by kernel_rfl) (by kernel_rfl) (by kernel_rfl) (fun _ _ _ h => h) (by rfl) ?_ (by first | assumption | trivial) ?_
    rotate_left
    · intro w hSw; have z8 := (HB.out.row.on hSw).mat.2.2.2.2.2.2.2.2.2.2; dsimp only at z8; obtain ⟨e0, e1, e2, e3, e4, e5⟩ := HEon.out _ hSw; go_simp; (try with_reducible rfl)
    simp only [Act.put, List.setIfInBounds_toArray, List.set_cons_zero, List.set_cons_succ]
    refine Hm.takeM (i := 8) (d := 143) (v := ?_) rfl (by kernel_rfl) (by kernel_rfl) (by kernel_rfl) (by kernel_rfl) (by kernel_rfl) (by kernel_rfl) (fun _ _ _ h => h) (by rfl) ?_ (by first | assumption | trivial) ?_
    rotate_left
    · intro w hSw; have z8 := (HB.out.row.on hSw).mat.2.2.2.2.2.2.2.2.2.2; dsimp only at z8; obtain ⟨e0, e1, e2, e3, e4, e5⟩ := HEon.out _ hSw; go_simp; (try with_reducible rfl)
    simp only [Act.put, List.setIfInBounds_toArray, List.set_cons_zero, List.set_cons_succ]
    refine Hm.takeM (i := 9) (d := 144) (v := ?_) rfl (by kernel_rfl) (by kernel_rfl) (by kernel_rfl) (by kernel_rfl) (by kernel_rfl) (by kernel_rfl) (fun _ _ _ h => h) (by rfl) ?_ (by first | assumption | trivial) ?_
    rotate_left
    · intro w hSw; have z8 := (HB.out.row.on hSw).mat.2.2.2.2.2.2.2.2.2.2; dsimp only at z8; obtain ⟨e0, e1, e2, e3, e4, e5⟩ := HEon.out _ hSw; go_simp; (try with_reducible rfl)
    simp only [Act.put, List.setIfInBounds_toArray, List.set_cons_zero, List.set_cons_succ]
    refine Hm.takeM (i := 10) (d := 145) (v := ?_) rfl (by kernel_rfl) (by kernel_rfl) (by kernel_rfl) (by kernel_rfl) (by kernel_rfl) (by kernel_rfl) (fun _ _ _ h => h) (by rfl) ?_ (by first | assumption | trivial) ?_
    rotate_left
    · intro w hSw; have z8 := (HB.out.row.on hSw).mat.2.2.2.2.2.2.2.2.2.2; dsimp only at z8; obtain ⟨e0, e1, e2, e3, e4, e5⟩ := HEon.out _ hSw; go_simp; (try with_reducible rfl)
    simp only [Act.put, List.setIfInBounds_toArray, List.set_cons_zero, List.set_cons_succ]
    refine Hm.takeM (i := 11) (d := 146) (v := ?_) rfl (by kernel_rfl) (by kernel_rfl) (by kernel_rfl) (by kernel_rfl) (by kernel_rfl) (by kernel_rfl) (fun _ _ _ h => h) (by rfl) ?_ (by first | assumption | trivial) ?_
    rotate_left
    · intro w hSw; have z8 := (HB.out.row.on hSw).mat.2.2.2.2.2.2.2.2.2.2; dsimp only at z8; obtain ⟨e0, e1, e2, e3, e4, e5⟩ := HEon.out _ hSw; go_simp; (try with_reducible rfl)
    simp only [Act.put, List.setIfInBounds_toArray, List.set_cons_zero, List.set_cons_succ]
    refine Hm.consS (i := 12) rfl (by kernel_rfl) (fun K' hK' => ?_)
    have HSn : Hid (Src Tryd.prog 6 25 (.slice (some ⟨v3.heap.size, 0, none⟩) 1 1) 1 (mC3 x) (v3.drew.alloc (.cells (mC3 x).toArray 40))) := Sg.src_new Tryd.underlying25 v3.drew 40 6 1 _ rfl (fun u hu => flat_one3 [x] u (by simpa using hu))
    have HBn : Hid (Mb W (v3.drew.alloc (.cells (mC3 x).toArray 40)) q m ⟨s1, k1, s2, k2, some ⟨g1, p1, none⟩, k3⟩) := (HB.out.on (Below.refl _ _).drew).al _
    go_simp
    refine hK'.out _ _ (hHeld.alloc (by simp) _) (fun hHeld2 => ?_)
    clear hK' K' hHeld hHeld2
    refine Hm.consF (i := 13) rfl (by kernel_rfl) (by rfl) (fun K' hK' => ?_)
    refine Sg.step_appendO Mb.elW rfl (.tmp 136) (.tmp 147) 25 rfl rfl rfl HBn.out.o3 HBn.out.bel.size HSn.out (show m.windows.length + 1 ≤ 1000000 by omega) ?_
    intro s' k' n' u4 hn h1 hkk
    have HRw : Hid (RowT 27 u4 q (mCs m ⟨s1, k1, s2, k2, some ⟨g1, p1, none⟩, k3⟩)) := HBn.out.row3 hkk
    have x8 := HRw.out.c 10 _ rfl
    have f8 := HRw.out.f 10
    have HY : Hid (Mb W (u4.setCell ⟨q, 10, none⟩ (.slice s' n' k')) q { m with windows := m.windows ++ [x] } ⟨s1, k1, s2, k2, s', k'⟩) := HBn.out.app3 (xs := m.windows ++ [x]) hkk (by rw [List.flatMap_append]; simpa using h1) (by rw [List.length_append]; exact hn)
    subst hn
    clear h1 hkk
    refine hK'.out _ _ ?_
    clear hK' K'
    refine Hm.takeY (i := 14) (d := 149) (v := ?_) rfl (by kernel_rfl) (by kernel_rfl) (by kernel_rfl) (fun _ _ _ h => h) (by rfl) ?_ ?_
    rotate_left
    · intro w; go_simp; (try with_reducible rfl)
    simp only [Act.put, List.setIfInBounds_toArray]
    refine Hm.consF (i := 15) rfl (by kernel_rfl) (by rfl) (fun K' hK' => ?_)
    go_simp
    refine hK'.out _ _ ?_
    clear hK' K'
    refine Hm.done (by kernel_rfl) ?_ _
    generalize u4.setCell ⟨q, 10, none⟩ (.slice s' (m.windows.length + 1) k') = v4 at HY ⊢
    clear x8 f8 HB HBn HRp HRw HSn HEon
    have HCn : Hid (Calls Tryd.prog 11 #[.agg #[.int .i64 m.level, .int .i64 m.nodes, .int .i64 m.cycles, .int .i64 m.length, .int .i64 m.enable, .int .i64 m.unit, .int .i64 m.init, .int .u32 (m.ref : Int), .slice s1 m.masters.length k1, .slice s2 m.messages.length k2, .slice s' (m.windows.length + 1) k']] v4 fun e w' => e = .returned (.tuple #[.int .i64 (m.windows.length : Int), .int .i64 143]) ∧ Below v4.heap.size v4 w') := by
      have := HCk.out v4 q { m with windows := m.windows ++ [x] } ⟨s1, k1, s2, k2, s', k'⟩ _ HY.out HAn.out.1 HAn.out.2
      dsimp only [mV, mCs] at this
      rw [List.length_append, List.length_singleton] at this
      exact this
    obtain ⟨y0, y1, y2, y3, y4, y5, y6, y7, y8, y9, y10⟩ := HY.out.row.mat
    dsimp only at y0 y1 y2 y3 y4 y5 y6 y7 y8 y9 y10
    rw [List.length_append, List.length_singleton] at y10
    clear HCk HAn
    go_wp2_with fail
    refine HCn.out.mono ?_
    rintro e v5 ⟨rfl, hb⟩
    replace HY : Hid (Mb W v5 q { m with windows := m.windows ++ [x] } ⟨s1, k1, s2, k2, s', k'⟩) := HY.out.on hb
    clear hb y0 y1 y2 y3 y4 y5 y6 y7 y8 y9 y10 HCn
    have y8 : v5.cell? ⟨q, 10, none⟩ = some (.slice s' (m.windows.length + 1) k') := by
      have := HY.out.row.mat.2.2.2.2.2.2.2.2.2.2
      dsimp only at this
      rwa [List.length_append, List.length_singleton] at this
    go_wp2
    go_ret
    exact ⟨by first | rfl | simp, HY.out.bel⟩
  · skip
    have y9 := HB.out.row.mat.2.2.2.2.2.2.2.2.2.1
    dsimp only at y9
    by_cases hnone : m.messages.length = 0
    · have hf2 : ((m.messages.length : Int) == 0) = true := beq_iff_eq.2 (by omega)
      go_wp2
      go_ret
      exact ⟨rfl, HB.out.bel⟩
    have hf2 : ((m.messages.length : Int) == 0) = false := beq_eq_false_iff_ne.2 (by omega)
    obtain ⟨k, hk⟩ : ∃ k : Nat, d0 % m.messages.length = k := ⟨_, rfl⟩
    have kl : k < m.messages.length := by rw [← hk]; exact Nat.mod_lt _ (by omega)
    have ik : (d0 : Int) % (m.messages.length : Int) = (k : Int) := by rw [← hk]; simp
    have kI : (k : Int) < (m.messages.length : Int) := by omega
    have n0 : (m.messages.length : Int) ≠ 0 := by omega
    have mne : ¬ m.messages = [] := fun e => by rw [e] at kl; cases kl
    have itm : (d0 : Int).tmod (m.messages.length : Int) = (k : Int) := by rw [Int.tmod_eq_emod_of_nonneg (by omega)]; exact ik
    obtain ⟨r, hr⟩ : ∃ r : Nat, d0 % 8 = r := ⟨_, rfl⟩
    have ir : (d0 : Int) % 8 = (r : Int) := by omega
    have r8 : (r : Int) < 8 := by omega
    have itm8 : (d0 : Int).tmod 8 = (r : Int) := by rw [Int.tmod_eq_emod_of_nonneg (by omega)]; exact ir
    have r8n : r < 8 := by omega
    have wr8 : IntKind.u32.wrap (r : Int) = (r : Int) := by rw [IntKind.wrap_u32]; omega
    have wsum : IntKind.u32.wrap ((m.ref : Int) + (r : Int)) = (m.ref : Int) + (r : Int) := by rw [IntKind.wrap_u32]; omega
    have lrI : (m.ref : Int) < 2048 := by omega
    have hcast : (m.ref : Int) + (r : Int) = ((m.ref + r : Nat) : Int) := by omega
    obtain ⟨x, hx⟩ : ∃ x, m.messages[k]? = some x := ⟨_, List.getElem?_eq_getElem kl⟩
    obtain ⟨h1i, h1c⟩ := Lq.one4 HP.out hx r8n
    have HAn : Hid (Mx.is { m with messages := m.messages.set k { x with id := m.ref + r } } = true ∧ Lq.check { m with messages := m.messages.set k { x with id := m.ref + r } } = ((k : Int), 142)) := ⟨h1i, h1c⟩
    clear h1i h1c hk hr HCl
    obtain ⟨g1, p1, cur, rfl, hh, hce, hfr⟩ := Mb.elem HB.out.o2 (by omega)
    have c1d : v3.drew.cell? ⟨g1, p1 + k * 3, none⟩ = some (.int .u32 (x.id : Int)) := hce _ _ (by have := flat_at (f := mC2) (sz := 3) (fun _ => rfl) hx (j := 0) rfl; rwa [Nat.add_zero] at this)
    have f1d : v3.drew.frozen? ⟨g1, p1 + k * 3, none⟩ = false := hfr (k * 3)
    have HYd : Hid (Mb W ((v3.setCell ⟨g1, p1 + k * 3, none⟩ (.int .u32 ((m.ref + r : Nat) : Int))).drew) q { m with messages := m.messages.set k { x with id := m.ref + r } } ⟨s1, k1, some ⟨g1, p1, none⟩, k2, s3, k3⟩) := Mb.on (HB.out.set2 rfl (k * 3) _ (by rw [flat_len (f := mC2) (sz := 3) (fun _ => rfl)]; omega) (by have := flat_set (f := mC2) (sz := 3) (fun _ => rfl) m.messages k x { x with id := m.ref + r } 0 (.int .u32 ((m.ref + r : Nat) : Int)) hx (by omega) rfl; rwa [Nat.add_zero] at this) (by rw [List.length_set])) (Below.refl _ _).drew
    rw [← hcast] at HYd
    clear hcast ir
    clear hce hfr hh hx
    go_upto_region 35 with fail
    refine Hm.start [16] (fun w' => RowT 27 w' q (mCs m ⟨s1, k1, some ⟨g1, p1, none⟩, k2, s3, k3⟩) ∧ RowT 27 w' W.heap.size (mCs m a)) (by kernel_rfl) ⟨HB.out.row.on (Below.refl _ _).drew, HRp.out.on (Below.refl _ _).drew⟩ (fun hHeld => ?_)
    refine Hm.takeM (i := 0) (d := 169) (v := ?_) rfl (by kernel_rfl) (by kernel_rfl) (by kernel_rfl) (by kernel_rfl) (by kernel_rfl) (by kernel_rfl) (fun _ _ _ h => h) (by rfl) ?_ (by first | assumption | trivial) ?_
    rotate_left
    · intro w hSw; have z9 := hSw.1.mat.2.2.2.2.2.2.2.2.2.1; have z7 := hSw.2.mat.2.2.2.2.2.2.2.1; dsimp only at z9; go_simp; (try with_reducible rfl)
    simp only [Act.put, List.setIfInBounds_toArray, List.set_cons_zero, List.set_cons_succ]
    refine Hm.takeM (i := 1) (d := 170) (v := ?_) rfl (by kernel_rfl) (by kernel_rfl) (by kernel_rfl) (by kernel_rfl) (by kernel_rfl) (by kernel_rfl) (fun _ _ _ h => h) (by rfl) ?_ (by first | assumption | trivial) ?_
    rotate_left
    · intro w hSw; have z9 := hSw.1.mat.2.2.2.2.2.2.2.2.2.1; have z7 := hSw.2.mat.2.2.2.2.2.2.2.1; dsimp only at z9; go_simp; (try with_reducible rfl)
    simp only [Act.put, List.setIfInBounds_toArray, List.set_cons_zero, List.set_cons_succ]
    refine Hm.takeM (i := 2) (d := 171) (v := ?_) rfl (by kernel_rfl) (by kernel_rfl) (by kernel_rfl) (by kernel_rfl) (by kernel_rfl) (by kernel_rfl) (fun _ _ _ h => h) (by rfl) ?_ (by first | assumption | trivial) ?_
    rotate_left
    · intro w hSw; have z9 := hSw.1.mat.2.2.2.2.2.2.2.2.2.1; have z7 := hSw.2.mat.2.2.2.2.2.2.2.1; dsimp only at z9; go_simp; (try with_reducible rfl)
    simp only [Act.put, List.setIfInBounds_toArray, List.set_cons_zero, List.set_cons_succ]
    refine Hm.takeM (i := 3) (d := 172) (v := ?_) rfl (by kernel_rfl) (by kernel_rfl) (by kernel_rfl) (by kernel_rfl) (by kernel_rfl) (by kernel_rfl) (fun _ _ _ h => h) (by rfl) ?_ (by first | assumption | trivial) ?_
    rotate_left
    · intro w hSw; have z9 := hSw.1.mat.2.2.2.2.2.2.2.2.2.1; have z7 := hSw.2.mat.2.2.2.2.2.2.2.1; dsimp only at z9; go_simp; (try with_reducible rfl)
    simp only [Act.put, List.setIfInBounds_toArray, List.set_cons_zero, List.set_cons_succ]
    refine Hm.takeM (i := 4) (d := 173) (v := ?_) rfl (by kernel_rfl) (by kernel_rfl) (by kernel_rfl) (by kernel_rfl) (by kernel_rfl) (by kernel_rfl) (fun _ _ _ h => h) (by rfl) ?_ (by first | assumption | trivial) ?_
    rotate_left
    · intro w hSw; have z9 := hSw.1.mat.2.2.2.2.2.2.2.2.2.1; have z7 := hSw.2.mat.2.2.2.2.2.2.2.1; dsimp only at z9; go_simp; (try with_reducible rfl)
    simp only [Act.put, List.setIfInBounds_toArray, List.set_cons_zero, List.set_cons_succ]
    refine Hm.takeM (i := 5) (d := 174) (v := ?_) rfl (by kernel_rfl) (by kernel_rfl) (by kernel_rfl) (by kernel_rfl) (by kernel_rfl) (by kernel_rfl) (fun _ _ _ h => h) (by rfl) ?_ (by first | assumption | trivial) ?_
    rotate_left
    · intro w hSw; have z9 := hSw.1.mat.2.2.2.2.2.2.2.2.2.1; have z7 := hSw.2.mat.2.2.2.2.2.2.2.1; dsimp only at z9; go_simp; (try with_reducible rfl)
    simp only [Act.put, List.setIfInBounds_toArray, List.set_cons_zero, List.set_cons_succ]
    refine Hm.takeM (i := 6) (d := 175) (v := ?_) rfl (by kernel_rfl) (by kernel_rfl) (by kernel_rfl) (by kernel_rfl) (by kernel_rfl) (by kernel_rfl) (fun _ _ _ h => h) (by rfl) ?_ (by first | assumption | trivial) ?_
    rotate_left
    · intro w hSw; have z9 := hSw.1.mat.2.2.2.2.2.2.2.2.2.1; have z7 := hSw.2.mat.2.2.2.2.2.2.2.1; dsimp only at z9; go_simp; (try with_reducible rfl)
    simp only [Act.put, List.setIfInBounds_toArray, List.set_cons_zero, List.set_cons_succ]
    refine Hm.takeM (i := 7) (d := 176) (v := ?_) rfl (by kernel_rfl) (by kernel_rfl) (by kernel_rfl) (by kernel_rfl) (by kernel_rfl) (by kernel_rfl) (fun _ _ _ h => h) (by rfl) ?_ (by first | assumption | trivial) ?_
    rotate_left
    · intro w hSw; have z9 := hSw.1.mat.2.2.2.2.2.2.2.2.2.1; have z7 := hSw.2.mat.2.2.2.2.2.2.2.1; dsimp only at z9; go_simp; (try with_reducible rfl)
    simp only [Act.put, List.setIfInBounds_toArray, List.set_cons_zero, List.set_cons_succ]
    refine Hm.takeM (i := 8) (d := 177) (v := ?_) rfl (by kernel_rfl) (by kernel_rfl) (by kernel_rfl) (by kernel_rfl) (by kernel_rfl) (by kernel_rfl) (fun _ _ _ h => h) (by rfl) ?_ (by first | assumption | trivial) ?_
    rotate_left
    · intro w hSw; have z9 := hSw.1.mat.2.2.2.2.2.2.2.2.2.1; have z7 := hSw.2.mat.2.2.2.2.2.2.2.1; dsimp only at z9; go_simp; (try with_reducible rfl)
    simp only [Act.put, List.setIfInBounds_toArray, List.set_cons_zero, List.set_cons_succ]
    refine Hm.takeM (i := 9) (d := 178) (v := ?_) rfl (by kernel_rfl) (by kernel_rfl) (by kernel_rfl) (by kernel_rfl) (by kernel_rfl) (by kernel_rfl) (fun _ _ _ h => h) (by rfl) ?_ (by first | assumption | trivial) ?_
    rotate_left
    · intro w hSw; have z9 := hSw.1.mat.2.2.2.2.2.2.2.2.2.1; have z7 := hSw.2.mat.2.2.2.2.2.2.2.1; dsimp only at z9; go_simp; (try with_reducible rfl)
    simp only [Act.put, List.setIfInBounds_toArray, List.set_cons_zero, List.set_cons_succ]
    refine Hm.takeM (i := 10) (d := 179) (v := ?_) rfl (by kernel_rfl) (by kernel_rfl) (by kernel_rfl) (by kernel_rfl) (by kernel_rfl) (by kernel_rfl) (fun _ _ _ h => h) (by rfl) ?_ (by first | assumption | trivial) ?_
    rotate_left
    · intro w hSw; have z9 := hSw.1.mat.2.2.2.2.2.2.2.2.2.1; have z7 := hSw.2.mat.2.2.2.2.2.2.2.1; dsimp only at z9; go_simp; (try with_reducible rfl)
    simp only [Act.put, List.setIfInBounds_toArray, List.set_cons_zero, List.set_cons_succ]
    refine Hm.takeM (i := 11) (d := 180) (v := ?_) rfl (by kernel_rfl) (by kernel_rfl) (by kernel_rfl) (by kernel_rfl) (by kernel_rfl) (by kernel_rfl) (fun _ _ _ h => h) (by rfl) ?_ (by first | assumption | trivial) ?_
    rotate_left
    · intro w hSw; have z9 := hSw.1.mat.2.2.2.2.2.2.2.2.2.1; have z7 := hSw.2.mat.2.2.2.2.2.2.2.1; dsimp only at z9; go_simp; (try with_reducible rfl)
    simp only [Act.put, List.setIfInBounds_toArray, List.set_cons_zero, List.set_cons_succ]
    refine Hm.takeM (i := 12) (d := 181) (v := ?_) rfl (by kernel_rfl) (by kernel_rfl) (by kernel_rfl) (by kernel_rfl) (by kernel_rfl) (by kernel_rfl) (fun _ _ _ h => h) (by rfl) ?_ (by first | assumption | trivial) ?_
    rotate_left
    · intro w hSw; have z9 := hSw.1.mat.2.2.2.2.2.2.2.2.2.1; have z7 := hSw.2.mat.2.2.2.2.2.2.2.1; dsimp only at z9; go_simp; (try with_reducible rfl)
    simp only [Act.put, List.setIfInBounds_toArray, List.set_cons_zero, List.set_cons_succ]
    refine Hm.takeM (i := 13) (d := 182) (v := ?_) rfl (by kernel_rfl) (by kernel_rfl) (by kernel_rfl) (by kernel_rfl) (by kernel_rfl) (by kernel_rfl) (fun _ _ _ h => h) (by rfl) ?_ (by first | assumption | trivial) ?_
    rotate_left
    · intro w hSw; have z9 := hSw.1.mat.2.2.2.2.2.2.2.2.2.1; have z7 := hSw.2.mat.2.2.2.2.2.2.2.1; dsimp only at z9; go_simp; (try with_reducible rfl)
    simp only [Act.put, List.setIfInBounds_toArray, List.set_cons_zero, List.set_cons_succ]
    refine Hm.takeM (i := 14) (d := 183) (v := ?_) rfl (by kernel_rfl) (by kernel_rfl) (by kernel_rfl) (by kernel_rfl) (by kernel_rfl) (by kernel_rfl) (fun _ _ _ h => h) (by rfl) ?_ (by first | assumption | trivial) ?_
    rotate_left
    · intro w hSw; have z9 := hSw.1.mat.2.2.2.2.2.2.2.2.2.1; have z7 := hSw.2.mat.2.2.2.2.2.2.2.1; dsimp only at z9; go_simp; (try with_reducible rfl)
    simp only [Act.put, List.setIfInBounds_toArray, List.set_cons_zero, List.set_cons_succ]
    refine Hm.takeM (i := 15) (d := 184) (v := ?_) rfl (by kernel_rfl) (by kernel_rfl) (by kernel_rfl) (by kernel_rfl) (by kernel_rfl) (by kernel_rfl) (fun _ _ _ h => h) (by rfl) ?_ (by first | assumption | trivial) ?_
    rotate_left
    · intro w hSw; have z9 := hSw.1.mat.2.2.2.2.2.2.2.2.2.1; have z7 := hSw.2.mat.2.2.2.2.2.2.2.1; dsimp only at z9; go_simp; (try with_reducible rfl)
    simp only [Act.put, List.setIfInBounds_toArray, List.set_cons_zero, List.set_cons_succ]
    refine Hm.consF (i := 16) rfl (by kernel_rfl) (by rfl) (fun K' hK' => ?_)
    go_simp
    refine hK'.out _ _ ?_
    clear hK' K' hHeld
    refine Hm.done (by kernel_rfl) ?_ _
    generalize (v3.setCell ⟨g1, p1 + k * 3, none⟩ (.int .u32 ((m.ref : Int) + (r : Int)))).drew = v4 at HYd ⊢
    clear c1d f1d HB HRp y9
    have HCn : Hid (Calls Tryd.prog 11 #[.agg #[.int .i64 m.level, .int .i64 m.nodes, .int .i64 m.cycles, .int .i64 m.length, .int .i64 m.enable, .int .i64 m.unit, .int .i64 m.init, .int .u32 (m.ref : Int), .slice s1 m.masters.length k1, .slice (some ⟨g1, p1, none⟩) m.messages.length k2, .slice s3 m.windows.length k3]] v4 fun e w' => e = .returned (.tuple #[.int .i64 (k : Int), .int .i64 142]) ∧ Below v4.heap.size v4 w') := by
      have := HCk.out v4 q { m with messages := m.messages.set k { x with id := m.ref + r } } ⟨s1, k1, (some ⟨g1, p1, none⟩), k2, s3, k3⟩ _ HYd.out HAn.out.1 HAn.out.2
      dsimp only [mV, mCs] at this
      rw [List.length_set] at this
      exact this
    obtain ⟨y0, y1, y2, y3, y4, y5, y6, y7, y8, y9, y10⟩ := HYd.out.row.mat
    dsimp only at y0 y1 y2 y3 y4 y5 y6 y7 y8 y9 y10
    rw [List.length_set] at y9
    clear HCk HAn
    go_wp2_with fail
    refine HCn.out.mono ?_
    rintro e v5 ⟨rfl, hb⟩
    replace HYd : Hid (Mb W v5 q { m with messages := m.messages.set k { x with id := m.ref + r } } ⟨s1, k1, some ⟨g1, p1, none⟩, k2, s3, k3⟩) := HYd.out.on hb
    clear hb y0 y1 y2 y3 y4 y5 y6 y7 y8 y9 y10 HCn
    have y9 : v5.cell? ⟨q, 9, none⟩ = some (.slice (some ⟨g1, p1, none⟩) m.messages.length k2) := by
      have := HYd.out.row.mat.2.2.2.2.2.2.2.2.2.1
      dsimp only at this
      rwa [List.length_set] at this
    go_wp2
    go_ret
    exact ⟨by first | rfl | simp, HYd.out.bel⟩
end Go.Proofs.YtdaiooelglablaaDoor.checkOne
