/- Layer 15: the document's Plan, over its text. -/
import Derived.Test.YtnbfnipdiffphaaDoorYc
import Derived.Test.YtnbfnipdiffphaaDoorUp
import Derived.Test.YtnbfnipdiffphaaDoorYf
namespace Go.Proofs.YtnbfnipdiffphaaDoor
open Go.RowKit Go.WideShapes
set_option linter.unusedVariables false
theorem Yq.wins_step {m : Mx.M} {who : Int} {k : Nat} {x : Mx.Win} (hx : m.windows[k]? = some x) : Yq.wins m who (m.windows.take (k + 1)) = Yq.put m who (Yq.wins m who (m.windows.take k)) x := by
  rw [List.take_add_one, hx]
  unfold Yq.wins
  rw [List.foldl_append]
  rfl
/-- While a plan is made: the matrix, the list so far, a window's copy, a trigger's. -/
structure Yw (W v : World) (m : Mx.M) (a : Ma) (gw gt : Nat) (xs ts : Array Value) (s : Option Addr) (c n : Nat) (d : List Yq.Tr) : Prop where
  orig : MIn W m a
  bel : Below W.heap.size W v
  row : RowT 27 v W.heap.size (mCs m a)
  rw_ : RowT 58 v gw xs
  rt : RowT 36 v gt ts
  ol : Sg.OL 36 6 W.heap.size v s c n (d.flatMap tC)
  ng : ∀ g, Sg.At_ s c g → g ≠ gt
  bt : W.heap.size ≤ gt
section
variable {W v v' : World} {m : Mx.M} {a : Ma} {gw gt : Nat} {xs ts : Array Value} {s : Option Addr} {c n : Nat} {d : List Yq.Tr}
theorem Yw.on (h : Yw W v m a gw gt xs ts s c n d) (hb : Below v.heap.size v v') : Yw W v' m a gw gt xs ts s c n d := ⟨h.orig, h.bel.trans (hb.mono h.bel.size), h.row.on hb, h.rw_.on hb, h.rt.on hb, h.ol.on hb, h.ng, h.bt⟩
theorem Yw.bx (h : Yw W v m a gw gt xs ts s c n d) : Bx W v W.heap.size m a := ⟨h.row, h.orig.on h.bel, h.bel⟩
theorem Yw.set (h : Yw W v m a gw gt xs ts s c n d) (k : Nat) (x : Value) : Yw W (v.setCell ⟨gt, k, none⟩ x) m a gw gt xs (ts.setIfInBounds k x) s c n d := by
  have hk : Kept (fun j => j = gt) v (v.setCell ⟨gt, k, none⟩ x) := Kept.set _ _ _ rfl
  have hne : ∀ {w : World} {g g' : Nat} {c c' : Array Value} {t t' : TypeId}, RowT t w g c → RowT t' w g' c' → t ≠ t' → g ≠ g' := fun h h' ht e => by
    subst e
    have h1 : _ = some _ := h
    have h2 : _ = some _ := h'
    rw [h1] at h2
    injection h2 with h2
    injection h2 with _ e
    exact ht e
  exact ⟨h.orig, h.bel.setCell h.bt _, h.row.kept hk (hne h.row h.rt (by decide)), h.rw_.kept hk (hne h.rw_ h.rt (by decide)), h.rt.set k x, h.ol.kept hk h.ng, h.ng, h.bt⟩
theorem Yw.new {w : World} (hx : Bx W w W.heap.size m a) (ho : MIn W m a) (hl : Sg.OL 36 6 W.heap.size w s c n (d.flatMap tC)) (xs ts : Array Value) : Yw W ((w.alloc (.cells xs 58)).alloc (.cells ts 36)) m a w.heap.size (w.heap.size + 1) xs ts s c n d := by
  have hs : (w.alloc (.cells xs 58)).heap.size = w.heap.size + 1 := by simp
  have b1 : Below w.heap.size w (w.alloc (.cells xs 58)) := (Below.refl _ _).alloc (Nat.le_refl _) _
  have b2 : Below (w.alloc (.cells xs 58)).heap.size (w.alloc (.cells xs 58)) ((w.alloc (.cells xs 58)).alloc (.cells ts 36)) := (Below.refl _ _).alloc (Nat.le_refl _) _
  have rt := RowT.new 36 (w.alloc (.cells xs 58)) ts
  rw [hs] at rt
  have hx2 := (hx.on b1).on b2
  exact ⟨ho, hx2.below, hx2.row, (RowT.new _ w xs).on b2, rt, (hl.on b1).on b2, fun g hg e => by have := hl.lt g hg; omega, by have := hx.below.size; omega⟩
end
/-- A call that tells triggers, in a list of one's own. -/
def TellsO (P : Program) (f : FuncId) (args : Array Value) (w : World) (l : List Yq.Tr) : Prop := Calls P f args w fun e w' => ∃ s c n, n = l.length ∧ e = .returned (.slice s n c) ∧ Sg.OL 36 6 w.heap.size w' s c n (l.flatMap tC) ∧ Below w.heap.size w w'
theorem Yq.wins16 {m : Mx.M} (h : Mx.is m = true) : m.windows.length ≤ 16 := by
  simp only [Mx.is, Mx.lens, Bool.and_eq_true, decide_eq_true_eq] at h
  omega
set_option maxRecDepth 100000 in
set_option maxHeartbeats 8000000 in
theorem rplanO_any (W : World) (m : Mx.M) (a : Ma) (who : Int) (hm : MIn W m a) (hS : Mx.Small m) (hwf : Mx.Wf m) : TellsO Tryd.prog 10 #[mV m a, .int .i64 who] W (Yq.plan m who) := by
  have HX : Hid (Bx W (W.alloc (.cells (mCs m a) 27)) W.heap.size m a) := Bx.mk' hm
  have HOr : Hid (MIn W m a) := hm
  have HS : Hid (Mx.Small m) := hS
  have HWf : Hid (Mx.Wf m) := hwf
  obtain ⟨y0, y1, y2, y3, y4, y5, y6, y7, y8, y9, y10⟩ := HX.out.row.mat
  have HCk : Hid (∀ w, Bx W w W.heap.size m a → Calls Tryd.prog 18 #[mV m a] w fun e w' => e = .returned (.tuple #[.int .i64 (Lq.check m).1, .int .i64 (Lq.check m).2]) ∧ Below w.heap.size w w') := fun w h => rcheck_any w m a h.mem hS hwf
  have HLay : Hid (∀ (v : World) (d : List Yq.Tr) (s : Option Addr) (c n : Nat) (t : Yq.Tr), n = d.length → Sg.OL 36 6 W.heap.size v s c n (d.flatMap tC) → d.length ≤ 1000 → W.heap.size ≤ v.heap.size → Calls Tryd.prog 23 #[.slice s n c, .agg #[.int .i64 t.kind, .int .i64 t.at_, .int .i64 t.cycle, .int .i64 t.rep, .int .i64 t.msg, .int .i64 t.til]] v fun e w' => ∃ s' c' n', n' = (Yq.lay d t).length ∧ e = .returned (.slice s' n' c') ∧ Sg.OL 36 6 W.heap.size w' s' c' n' ((Yq.lay d t).flatMap tC) ∧ Below v.heap.size v w') := fun v d s c n t hn h hl hB => by
    subst hn
    refine (rlaid_any v d s c t h.sl.li hl).mono ?_
    rintro e w' ⟨s', c', n', h1, h2, h3, h4⟩
    exact ⟨s', c', n', h1, h2, h3.mono hB, h4⟩
  obtain ⟨V, hV⟩ : ∃ V, Yq.plan m who = V := ⟨_, rfl⟩
  have HV : Hid (Yq.plan m who = V) := hV
  rw [hV]
  unfold TellsO
  clear hV hm hS hwf
  go_enter Tryd.func10, Tryd.ntmps10
  go_wp2_with fail
  refine (HCk.out _ HX.out).mono ?_
  rintro e w1 ⟨rfl, hb⟩
  replace HX : Hid (Bx W w1 W.heap.size m a) := HX.out.on hb
  clear hb HCk y0 y1 y2 y3 y4 y5 y6 y7 y8 y9 y10
  by_cases hc : (Lq.check m).2 = 0
  rotate_left
  · obtain rfl : V = [] := by rw [← HV.out]; unfold Yq.plan; rw [if_neg hc]
    generalize (Lq.check m).2 = ck at hc ⊢
    go_wp2
    go_ret
    exact ⟨none, 0, 0, rfl, rfl, Sg.OL.nil _ _ _ _, HX.out.below⟩
  have HPs : Hid (Lq.Passes m) := Lq.passes_of hc
  have hV : V = Yq.lay (Yq.refs m who (Yq.wins m who m.windows)) ⟨5, Yq.watch m, 0, 1, 0, 0⟩ := by rw [← HV.out]; unfold Yq.plan; rw [if_pos hc]
  have HVe : Hid (V = Yq.lay (Yq.refs m who (Yq.wins m who m.windows)) ⟨5, Yq.watch m, 0, 1, 0, 0⟩) := hV
  rw [hc]
  clear hc hV HV
  have hlen : m.windows.length ≤ 16 := by have := (Yq.wins16 HPs.out.is); exact this
  generalize (Lq.check m).1 = ck1
  go_upto_block 0 with fail
  go_wp2_with fail
  go_loopw [7, 8] (fun vl vi wr => ∃ (k : Nat) (s : Option Addr) (c n : Nat) (d : List Yq.Tr), k ≤ m.windows.length ∧ vi = .int .i64 (k : Int) ∧ vl = .slice s n c ∧ Hid (n = d.length) ∧ Hid (d = Yq.wins m who (m.windows.take k)) ∧ Hid (d.length ≤ k) ∧ Hid (Sg.OL 36 6 W.heap.size wr s c n (d.flatMap tC)) ∧ Hid (Bx W wr W.heap.size m a)) (fun _ vi _ => m.windows.length - (intOf vi).toNat)
  case atStart => exact ⟨0, none, 0, 0, [], Nat.zero_le _, rfl, rfl, rfl, rfl, Nat.le_refl 0, Sg.OL.nil _ _ _ _, HX⟩
  case round =>
    clear HX
    obtain ⟨k, s, c, n, d, hk, rfl, rfl, HN, HD, HLd, HO, HX⟩ := hrel
    obtain ⟨y0, y1, y2, y3, y4, y5, y6, y7, y8, y9, y10⟩ := HX.out.row.mat
    by_cases hkl : k < m.windows.length
    · obtain ⟨x, hx⟩ : ∃ x, m.windows[k]? = some x := ⟨_, List.getElem?_eq_getElem hkl⟩
      have hw := Lq.wx_of HPs.out hx
      obtain ⟨g, o, hs, _, c0, c1, c2, c3, c4, c5⟩ := HX.out.mem.window hx
      have HW1 : Hid (Yq.wins m who (m.windows.take (k + 1)) = Yq.put m who d x) := by show _ = _; rw [HD.out]; exact Yq.wins_step hx
      obtain ⟨kd, st, fn, cy, rp, ms⟩ := x
      obtain ⟨⟨k1, k2⟩, ⟨s1, s2, s3⟩, _, _, ⟨m1, m2⟩, hst, hst2, hms, _⟩ := hw
      dsimp only at k1 k2 s1 s2 s3 m1 m2 hst hst2 hms c0 c1 c2 c3 c4 c5
      have hcy := Lq.cyc_of HPs.out.is
      obtain ⟨_, _, ln1, ln2, _, en1, en2, _⟩ := hcy
      have hsp := Yq.step_pos HPs.out.is
      have ki : (k : Int) < (m.windows.length : Int) := by omega
      have kb : (k : Int) < 1000 := by omega
      have HYw : Hid (Yw W ((wr.alloc (.cells #[.int .i64 kd, .int .i64 st, .int .i64 fn, .int .i64 cy, .int .i64 rp, .int .i64 ms] 58)).alloc (.cells #[.int .i64 0, .int .i64 0, .int .i64 cy, .int .i64 rp, .int .i64 ms, .int .i64 0] 36)) m a wr.heap.size (wr.heap.size + 1) #[.int .i64 kd, .int .i64 st, .int .i64 fn, .int .i64 cy, .int .i64 rp, .int .i64 ms] #[.int .i64 0, .int .i64 0, .int .i64 cy, .int .i64 rp, .int .i64 ms, .int .i64 0] s c n d) := Yw.new HX.out HOr.out HO.out _ _
      have HLn : Hid (d.length ≤ 1000) := by show _ ≤ _; have := HLd.out; omega
      clear HX HO hx HD
      go_upto_block 2 with fail
      rw [← hs]
      clear hs c0 c1 c2 c3 c4 c5 y0 y1 y2 y3 y4 y5 y6 y7 y8 y9 y10
      generalize (wr.alloc (.cells #[.int .i64 kd, .int .i64 st, .int .i64 fn, .int .i64 cy, .int .i64 rp, .int .i64 ms] 58)).alloc (.cells #[.int .i64 0, .int .i64 0, .int .i64 cy, .int .i64 rp, .int .i64 ms, .int .i64 0] 36) = v0 at HYw ⊢
      generalize wr.heap.size + 1 = gt at HYw ⊢
      generalize wr.heap.size = gw at HYw ⊢
      by_cases e1 : kd = 1
      · subst e1
        obtain ⟨j, y, rfl, hy, _⟩ := hms rfl
        obtain ⟨g2, o2, hs2, _, _, p1, _⟩ := HYw.out.bx.mem.message hy
        have jl : j < m.messages.length := (List.getElem?_eq_some_iff.1 hy).1
        have ji : (j : Int) < (m.messages.length : Int) := by omega
        have jb : (j : Int) < 1000 := by omega
        have HTr0 : Hid (Yq.trig m who ⟨1, st, fn, cy, rp, (j : Int)⟩ = if y.owner = who then some ⟨1, st, cy, rp, (j : Int), st + m.enable⟩ else some ⟨3, fn - 1, cy, rp, (j : Int), 0⟩) := by
          show _ = _
          unfold Yq.trig
          simp only [Int.toNat_natCast, hy, if_true]
        obtain ⟨y0, y1, y2, y3, y4, y5, y6, y7, y8, y9, y10⟩ := HYw.out.bx.row.mat
        have x0 : v0.cell? ⟨gw, 0, none⟩ = some (.int .i64 1) := HYw.out.rw_.c 0 _ rfl
        have x1 : v0.cell? ⟨gw, 1, none⟩ = some (.int .i64 st) := HYw.out.rw_.c 1 _ rfl
        have x2 : v0.cell? ⟨gw, 2, none⟩ = some (.int .i64 fn) := HYw.out.rw_.c 2 _ rfl
        have x3 : v0.cell? ⟨gw, 3, none⟩ = some (.int .i64 cy) := HYw.out.rw_.c 3 _ rfl
        have x4 : v0.cell? ⟨gw, 4, none⟩ = some (.int .i64 rp) := HYw.out.rw_.c 4 _ rfl
        have x5 : v0.cell? ⟨gw, 5, none⟩ = some (.int .i64 (j : Int)) := HYw.out.rw_.c 5 _ rfl
        by_cases e2 : y.owner = who
        · have eo : (y.owner == who) = true := beq_iff_eq.2 e2
          have eA : IntKind.i64.wrap (st + m.enable) = st + m.enable := by rw [IntKind.wrap_i64]; omega
          have HTr : Hid (Yq.trig m who ⟨1, st, fn, cy, rp, (j : Int)⟩ = some ⟨1, st, cy, rp, (j : Int), st + m.enable⟩) := by show _ = _; rw [HTr0.out, if_pos e2]
          clear HTr0 hms hy e2
          go_upto_region 11 with fail
          have Hv1 : Hid (Yw W v0.drew m a gw gt #[.int .i64 1, .int .i64 st, .int .i64 fn, .int .i64 cy, .int .i64 rp, .int .i64 (j : Int)] #[.int .i64 0, .int .i64 0, .int .i64 cy, .int .i64 rp, .int .i64 (j : Int), .int .i64 0] s c n d) := HYw.out.on (Below.refl _ _).drew
          clear HYw x0 x1 x2 x3 x4 x5 y0 y1 y2 y3 y4 y5 y6 y7 y8 y9 y10 p1
          try rw [← hs2]
          clear hs2
          refine wp_region_held_drew (S := fun w' => RowT 58 w' gw #[.int .i64 1, .int .i64 st, .int .i64 fn, .int .i64 cy, .int .i64 rp, .int .i64 (j : Int)] ∧ RowT 27 w' W.heap.size (mCs m a)) (by kernel_rfl) ⟨Hv1.out.rw_, Hv1.out.row⟩ (fun hHeld => ?_)
          refine Hl.takeL (i := 0) (d := 53) (v := ?_) rfl (by kernel_rfl) (by kernel_rfl) (by kernel_rfl) (fun _ _ _ h => h) (by rfl) ?_ (by assumption) ?_
          rotate_left
          · intro w hSw; have q1 := hSw.1.c 1 _ rfl; have q2 := hSw.1.c 2 _ rfl; obtain ⟨y0, y1, y2, y3, y4, y5, y6, y7, y8, y9, y10⟩ := hSw.2.mat; go_simp; (try with_reducible rfl)
          simp only [Act.put, List.setIfInBounds_toArray, List.set_cons_zero, List.set_cons_succ]
          refine Hl.takeL (i := 1) (d := 54) (v := ?_) rfl (by kernel_rfl) (by kernel_rfl) (by kernel_rfl) (fun _ _ _ h => h) (by rfl) ?_ (by assumption) ?_
          rotate_left
          · intro w hSw; have q1 := hSw.1.c 1 _ rfl; have q2 := hSw.1.c 2 _ rfl; obtain ⟨y0, y1, y2, y3, y4, y5, y6, y7, y8, y9, y10⟩ := hSw.2.mat; go_simp; (try with_reducible rfl)
          simp only [Act.put, List.setIfInBounds_toArray, List.set_cons_zero, List.set_cons_succ]
          refine Hl.takeL (i := 2) (d := 55) (v := ?_) rfl (by kernel_rfl) (by kernel_rfl) (by kernel_rfl) (fun _ _ _ h => h) (by rfl) ?_ (by assumption) ?_
          rotate_left
          · intro w hSw; have q1 := hSw.1.c 1 _ rfl; have q2 := hSw.1.c 2 _ rfl; obtain ⟨y0, y1, y2, y3, y4, y5, y6, y7, y8, y9, y10⟩ := hSw.2.mat; go_simp; (try with_reducible rfl)
          simp only [Act.put, List.setIfInBounds_toArray, List.set_cons_zero, List.set_cons_succ]
          refine Hl.takeL (i := 3) (d := 56) (v := ?_) rfl (by kernel_rfl) (by kernel_rfl) (by kernel_rfl) (fun _ _ _ h => h) (by rfl) ?_ (by assumption) ?_
          rotate_left
          · intro w hSw; have q1 := hSw.1.c 1 _ rfl; have q2 := hSw.1.c 2 _ rfl; obtain ⟨y0, y1, y2, y3, y4, y5, y6, y7, y8, y9, y10⟩ := hSw.2.mat; go_simp; (try with_reducible rfl)
          simp only [Act.put, List.setIfInBounds_toArray, List.set_cons_zero, List.set_cons_succ]
          refine Hl.takeL (i := 4) (d := 57) (v := ?_) rfl (by kernel_rfl) (by kernel_rfl) (by kernel_rfl) (fun _ _ _ h => h) (by rfl) ?_ (by assumption) ?_
          rotate_left
          · intro w hSw; have q1 := hSw.1.c 1 _ rfl; have q2 := hSw.1.c 2 _ rfl; obtain ⟨y0, y1, y2, y3, y4, y5, y6, y7, y8, y9, y10⟩ := hSw.2.mat; go_simp; (try with_reducible rfl)
          simp only [Act.put, List.setIfInBounds_toArray, List.set_cons_zero, List.set_cons_succ]
          refine Hl.takeL (i := 5) (d := 58) (v := ?_) rfl (by kernel_rfl) (by kernel_rfl) (by kernel_rfl) (fun _ _ _ h => h) (by rfl) ?_ (by assumption) ?_
          rotate_left
          · intro w hSw; have q1 := hSw.1.c 1 _ rfl; have q2 := hSw.1.c 2 _ rfl; obtain ⟨y0, y1, y2, y3, y4, y5, y6, y7, y8, y9, y10⟩ := hSw.2.mat; go_simp; (try with_reducible rfl)
          simp only [Act.put, List.setIfInBounds_toArray, List.set_cons_zero, List.set_cons_succ]
          refine Hl.takeL (i := 6) (d := 59) (v := ?_) rfl (by kernel_rfl) (by kernel_rfl) (by kernel_rfl) (fun _ _ _ h => h) (by rfl) ?_ (by assumption) ?_
          rotate_left
          · intro w hSw; have q1 := hSw.1.c 1 _ rfl; have q2 := hSw.1.c 2 _ rfl; obtain ⟨y0, y1, y2, y3, y4, y5, y6, y7, y8, y9, y10⟩ := hSw.2.mat; go_simp; (try with_reducible rfl)
          simp only [Act.put, List.setIfInBounds_toArray, List.set_cons_zero, List.set_cons_succ]
          refine Hl.takeL (i := 7) (d := 60) (v := ?_) rfl (by kernel_rfl) (by kernel_rfl) (by kernel_rfl) (fun _ _ _ h => h) (by rfl) ?_ (by assumption) ?_
          rotate_left
          · intro w hSw; have q1 := hSw.1.c 1 _ rfl; have q2 := hSw.1.c 2 _ rfl; obtain ⟨y0, y1, y2, y3, y4, y5, y6, y7, y8, y9, y10⟩ := hSw.2.mat; go_simp; (try with_reducible rfl)
          simp only [Act.put, List.setIfInBounds_toArray, List.set_cons_zero, List.set_cons_succ]
          generalize v0.drew = v1 at Hv1 hHeld ⊢
          refine Hl.consL (i := 8) rfl (by kernel_rfl) (fun K' hK' => ?_)
          have hf := Hv1.out.rt.f 0
          have hcl : v1.cell? ⟨gt, 0, none⟩ = some (.int .i64 0) := Hv1.out.rt.c 0 _ rfl
          have Hv2 : Hid (Yw W (v1.setCell ⟨gt, 0, none⟩ (.int .i64 1)) m a gw gt #[.int .i64 1, .int .i64 st, .int .i64 fn, .int .i64 cy, .int .i64 rp, .int .i64 (j : Int)] #[.int .i64 1, .int .i64 0, .int .i64 cy, .int .i64 rp, .int .i64 (j : Int), .int .i64 0] s c n d) := Hv1.out.set 0 _
          go_simp
          clear hHeld
          refine hK'.out _ _ ⟨Hv2.out.rw_, Hv2.out.row⟩ (fun hHeld => ?_)
          clear hK' K' hf hcl Hv1
          generalize v1.setCell ⟨gt, 0, none⟩ (.int .i64 1) = v2 at Hv2 hHeld ⊢
          refine Hl.takeL (i := 9) (d := 61) (v := ?_) rfl (by kernel_rfl) (by kernel_rfl) (by kernel_rfl) (fun _ _ _ h => h) (by rfl) ?_ (by assumption) ?_
          rotate_left
          · intro w hSw; have q1 := hSw.1.c 1 _ rfl; have q2 := hSw.1.c 2 _ rfl; obtain ⟨y0, y1, y2, y3, y4, y5, y6, y7, y8, y9, y10⟩ := hSw.2.mat; go_simp; (try with_reducible rfl)
          simp only [Act.put, List.setIfInBounds_toArray, List.set_cons_zero, List.set_cons_succ]
          refine Hl.consL (i := 10) rfl (by kernel_rfl) (fun K' hK' => ?_)
          have hf := Hv2.out.rt.f 1
          have hcl : v2.cell? ⟨gt, 1, none⟩ = some (.int .i64 0) := Hv2.out.rt.c 1 _ rfl
          have Hv3 : Hid (Yw W (v2.setCell ⟨gt, 1, none⟩ (.int .i64 st)) m a gw gt #[.int .i64 1, .int .i64 st, .int .i64 fn, .int .i64 cy, .int .i64 rp, .int .i64 (j : Int)] #[.int .i64 1, .int .i64 st, .int .i64 cy, .int .i64 rp, .int .i64 (j : Int), .int .i64 0] s c n d) := Hv2.out.set 1 _
          go_simp
          clear hHeld
          refine hK'.out _ _ ⟨Hv3.out.rw_, Hv3.out.row⟩ (fun hHeld => ?_)
          clear hK' K' hf hcl Hv2
          generalize v2.setCell ⟨gt, 1, none⟩ (.int .i64 st) = v3 at Hv3 hHeld ⊢
          refine Hl.takeL (i := 11) (d := 62) (v := ?_) rfl (by kernel_rfl) (by kernel_rfl) (by kernel_rfl) (fun _ _ _ h => h) (by rfl) ?_ (by assumption) ?_
          rotate_left
          · intro w hSw; have q1 := hSw.1.c 1 _ rfl; have q2 := hSw.1.c 2 _ rfl; obtain ⟨y0, y1, y2, y3, y4, y5, y6, y7, y8, y9, y10⟩ := hSw.2.mat; go_simp; (try with_reducible rfl)
          simp only [Act.put, List.setIfInBounds_toArray, List.set_cons_zero, List.set_cons_succ]
          refine Hl.consL (i := 12) rfl (by kernel_rfl) (fun K' hK' => ?_)
          have hf := Hv3.out.rt.f 5
          have hcl : v3.cell? ⟨gt, 5, none⟩ = some (.int .i64 0) := Hv3.out.rt.c 5 _ rfl
          have Hv4 : Hid (Yw W (v3.setCell ⟨gt, 5, none⟩ (.int .i64 (st + m.enable))) m a gw gt #[.int .i64 1, .int .i64 st, .int .i64 fn, .int .i64 cy, .int .i64 rp, .int .i64 (j : Int)] #[.int .i64 1, .int .i64 st, .int .i64 cy, .int .i64 rp, .int .i64 (j : Int), .int .i64 (st + m.enable)] s c n d) := Hv3.out.set 5 _
          go_simp
          clear hHeld
          refine hK'.out _ _ ⟨Hv4.out.rw_, Hv4.out.row⟩ (fun hHeld => ?_)
          clear hK' K' hf hcl Hv3
          generalize v3.setCell ⟨gt, 5, none⟩ (.int .i64 (st + m.enable)) = v4 at Hv4 hHeld ⊢
          refine wpAnyH_done (by kernel_rfl) ?_ _
          clear hHeld
          have t0 : v4.cell? ⟨gt, 0, none⟩ = some (.int .i64 1) := Hv4.out.rt.c 0 _ rfl
          have t1 : v4.cell? ⟨gt, 1, none⟩ = some (.int .i64 st) := Hv4.out.rt.c 1 _ rfl
          have t2 : v4.cell? ⟨gt, 2, none⟩ = some (.int .i64 cy) := Hv4.out.rt.c 2 _ rfl
          have t3 : v4.cell? ⟨gt, 3, none⟩ = some (.int .i64 rp) := Hv4.out.rt.c 3 _ rfl
          have t4 : v4.cell? ⟨gt, 4, none⟩ = some (.int .i64 (j : Int)) := Hv4.out.rt.c 4 _ rfl
          have t5 : v4.cell? ⟨gt, 5, none⟩ = some (.int .i64 (st + m.enable)) := Hv4.out.rt.c 5 _ rfl
          go_wp2_with fail
          refine (HLay.out _ d s c n ⟨1, st, cy, rp, (j : Int), (st + m.enable)⟩ HN.out Hv4.out.ol HLn.out Hv4.out.bel.size).mono ?_
          rintro e w9 ⟨s', c', n', hn', rfl, ho', hb'⟩
          have HN' : Hid (n' = (Yq.lay d ⟨1, st, cy, rp, (j : Int), (st + m.enable)⟩).length) := hn'
          have HO' : Hid (Sg.OL 36 6 W.heap.size w9 s' c' n' ((Yq.lay d ⟨1, st, cy, rp, (j : Int), (st + m.enable)⟩).flatMap tC)) := ho'
          have HX' : Hid (Bx W w9 W.heap.size m a) := Hv4.out.bx.on hb'
          have HD' : Hid (Yq.lay d ⟨1, st, cy, rp, (j : Int), (st + m.enable)⟩ = Yq.wins m who (m.windows.take (k + 1))) := by
            show _ = _
            rw [HW1.out]
            unfold Yq.put
            rw [HTr.out]
          have HL' : Hid ((Yq.lay d ⟨1, st, cy, rp, (j : Int), (st + m.enable)⟩).length ≤ k + 1) := by show _ ≤ _; rw [Yq.len_lay]; have := HLd.out; omega
          clear hn' ho' hb' Hv4 HW1 HTr t0 t1 t2 t3 t4 t5
          go_wp2_with fail
          go_roundw
          case rel => exact ⟨k + 1, s', c', n', _, by omega, rfl, rfl, HN', HD', HL', HO', HX'⟩
          case measure => simp only [intOf]; omega
        · have eo : (y.owner == who) = false := beq_eq_false_iff_ne.2 e2
          have eA : IntKind.i64.wrap (fn - 1) = fn - 1 := by rw [IntKind.wrap_i64]; omega
          have HTr : Hid (Yq.trig m who ⟨1, st, fn, cy, rp, (j : Int)⟩ = some ⟨3, fn - 1, cy, rp, (j : Int), 0⟩) := by show _ = _; rw [HTr0.out, if_neg e2]
          clear HTr0 hms hy
          go_upto_region 13 with fail
          have Hv1 : Hid (Yw W v0.drew m a gw gt #[.int .i64 1, .int .i64 st, .int .i64 fn, .int .i64 cy, .int .i64 rp, .int .i64 (j : Int)] #[.int .i64 0, .int .i64 0, .int .i64 cy, .int .i64 rp, .int .i64 (j : Int), .int .i64 0] s c n d) := HYw.out.on (Below.refl _ _).drew
          clear HYw x0 x1 x2 x3 x4 x5 y0 y1 y2 y3 y4 y5 y6 y7 y8 y9 y10 p1
          try rw [← hs2]
          clear hs2
          refine wp_region_held_drew (S := fun w' => RowT 58 w' gw #[.int .i64 1, .int .i64 st, .int .i64 fn, .int .i64 cy, .int .i64 rp, .int .i64 (j : Int)] ∧ RowT 27 w' W.heap.size (mCs m a)) (by kernel_rfl) ⟨Hv1.out.rw_, Hv1.out.row⟩ (fun hHeld => ?_)
          refine Hl.takeL (i := 0) (d := 67) (v := ?_) rfl (by kernel_rfl) (by kernel_rfl) (by kernel_rfl) (fun _ _ _ h => h) (by rfl) ?_ (by assumption) ?_
          rotate_left
          · intro w hSw; have q1 := hSw.1.c 1 _ rfl; have q2 := hSw.1.c 2 _ rfl; obtain ⟨y0, y1, y2, y3, y4, y5, y6, y7, y8, y9, y10⟩ := hSw.2.mat; go_simp; (try with_reducible rfl)
          simp only [Act.put, List.setIfInBounds_toArray, List.set_cons_zero, List.set_cons_succ]
          refine Hl.takeL (i := 1) (d := 68) (v := ?_) rfl (by kernel_rfl) (by kernel_rfl) (by kernel_rfl) (fun _ _ _ h => h) (by rfl) ?_ (by assumption) ?_
          rotate_left
          · intro w hSw; have q1 := hSw.1.c 1 _ rfl; have q2 := hSw.1.c 2 _ rfl; obtain ⟨y0, y1, y2, y3, y4, y5, y6, y7, y8, y9, y10⟩ := hSw.2.mat; go_simp; (try with_reducible rfl)
          simp only [Act.put, List.setIfInBounds_toArray, List.set_cons_zero, List.set_cons_succ]
          refine Hl.takeL (i := 2) (d := 69) (v := ?_) rfl (by kernel_rfl) (by kernel_rfl) (by kernel_rfl) (fun _ _ _ h => h) (by rfl) ?_ (by assumption) ?_
          rotate_left
          · intro w hSw; have q1 := hSw.1.c 1 _ rfl; have q2 := hSw.1.c 2 _ rfl; obtain ⟨y0, y1, y2, y3, y4, y5, y6, y7, y8, y9, y10⟩ := hSw.2.mat; go_simp; (try with_reducible rfl)
          simp only [Act.put, List.setIfInBounds_toArray, List.set_cons_zero, List.set_cons_succ]
          refine Hl.takeL (i := 3) (d := 70) (v := ?_) rfl (by kernel_rfl) (by kernel_rfl) (by kernel_rfl) (fun _ _ _ h => h) (by rfl) ?_ (by assumption) ?_
          rotate_left
          · intro w hSw; have q1 := hSw.1.c 1 _ rfl; have q2 := hSw.1.c 2 _ rfl; obtain ⟨y0, y1, y2, y3, y4, y5, y6, y7, y8, y9, y10⟩ := hSw.2.mat; go_simp; (try with_reducible rfl)
          simp only [Act.put, List.setIfInBounds_toArray, List.set_cons_zero, List.set_cons_succ]
          generalize v0.drew = v1 at Hv1 hHeld ⊢
          refine Hl.consL (i := 4) rfl (by kernel_rfl) (fun K' hK' => ?_)
          have hf := Hv1.out.rt.f 0
          have hcl : v1.cell? ⟨gt, 0, none⟩ = some (.int .i64 0) := Hv1.out.rt.c 0 _ rfl
          have Hv2 : Hid (Yw W (v1.setCell ⟨gt, 0, none⟩ (.int .i64 3)) m a gw gt #[.int .i64 1, .int .i64 st, .int .i64 fn, .int .i64 cy, .int .i64 rp, .int .i64 (j : Int)] #[.int .i64 3, .int .i64 0, .int .i64 cy, .int .i64 rp, .int .i64 (j : Int), .int .i64 0] s c n d) := Hv1.out.set 0 _
          go_simp
          clear hHeld
          refine hK'.out _ _ ⟨Hv2.out.rw_, Hv2.out.row⟩ (fun hHeld => ?_)
          clear hK' K' hf hcl Hv1
          generalize v1.setCell ⟨gt, 0, none⟩ (.int .i64 3) = v2 at Hv2 hHeld ⊢
          refine Hl.takeL (i := 5) (d := 71) (v := ?_) rfl (by kernel_rfl) (by kernel_rfl) (by kernel_rfl) (fun _ _ _ h => h) (by rfl) ?_ (by assumption) ?_
          rotate_left
          · intro w hSw; have q1 := hSw.1.c 1 _ rfl; have q2 := hSw.1.c 2 _ rfl; obtain ⟨y0, y1, y2, y3, y4, y5, y6, y7, y8, y9, y10⟩ := hSw.2.mat; go_simp; (try with_reducible rfl)
          simp only [Act.put, List.setIfInBounds_toArray, List.set_cons_zero, List.set_cons_succ]
          refine Hl.consL (i := 6) rfl (by kernel_rfl) (fun K' hK' => ?_)
          have hf := Hv2.out.rt.f 1
          have hcl : v2.cell? ⟨gt, 1, none⟩ = some (.int .i64 0) := Hv2.out.rt.c 1 _ rfl
          have Hv3 : Hid (Yw W (v2.setCell ⟨gt, 1, none⟩ (.int .i64 (fn - 1))) m a gw gt #[.int .i64 1, .int .i64 st, .int .i64 fn, .int .i64 cy, .int .i64 rp, .int .i64 (j : Int)] #[.int .i64 3, .int .i64 (fn - 1), .int .i64 cy, .int .i64 rp, .int .i64 (j : Int), .int .i64 0] s c n d) := Hv2.out.set 1 _
          go_simp
          clear hHeld
          refine hK'.out _ _ ⟨Hv3.out.rw_, Hv3.out.row⟩ (fun hHeld => ?_)
          clear hK' K' hf hcl Hv2
          generalize v2.setCell ⟨gt, 1, none⟩ (.int .i64 (fn - 1)) = v3 at Hv3 hHeld ⊢
          refine wpAnyH_done (by kernel_rfl) ?_ _
          clear hHeld
          have t0 : v3.cell? ⟨gt, 0, none⟩ = some (.int .i64 3) := Hv3.out.rt.c 0 _ rfl
          have t1 : v3.cell? ⟨gt, 1, none⟩ = some (.int .i64 (fn - 1)) := Hv3.out.rt.c 1 _ rfl
          have t2 : v3.cell? ⟨gt, 2, none⟩ = some (.int .i64 cy) := Hv3.out.rt.c 2 _ rfl
          have t3 : v3.cell? ⟨gt, 3, none⟩ = some (.int .i64 rp) := Hv3.out.rt.c 3 _ rfl
          have t4 : v3.cell? ⟨gt, 4, none⟩ = some (.int .i64 (j : Int)) := Hv3.out.rt.c 4 _ rfl
          have t5 : v3.cell? ⟨gt, 5, none⟩ = some (.int .i64 0) := Hv3.out.rt.c 5 _ rfl
          go_wp2_with fail
          refine (HLay.out _ d s c n ⟨3, (fn - 1), cy, rp, (j : Int), 0⟩ HN.out Hv3.out.ol HLn.out Hv3.out.bel.size).mono ?_
          rintro e w9 ⟨s', c', n', hn', rfl, ho', hb'⟩
          have HN' : Hid (n' = (Yq.lay d ⟨3, (fn - 1), cy, rp, (j : Int), 0⟩).length) := hn'
          have HO' : Hid (Sg.OL 36 6 W.heap.size w9 s' c' n' ((Yq.lay d ⟨3, (fn - 1), cy, rp, (j : Int), 0⟩).flatMap tC)) := ho'
          have HX' : Hid (Bx W w9 W.heap.size m a) := Hv3.out.bx.on hb'
          have HD' : Hid (Yq.lay d ⟨3, (fn - 1), cy, rp, (j : Int), 0⟩ = Yq.wins m who (m.windows.take (k + 1))) := by
            show _ = _
            rw [HW1.out]
            unfold Yq.put
            rw [HTr.out]
          have HL' : Hid ((Yq.lay d ⟨3, (fn - 1), cy, rp, (j : Int), 0⟩).length ≤ k + 1) := by show _ ≤ _; rw [Yq.len_lay]; have := HLd.out; omega
          clear hn' ho' hb' Hv3 HW1 HTr t0 t1 t2 t3 t4 t5
          go_wp2_with fail
          go_roundw
          case rel => exact ⟨k + 1, s', c', n', _, by omega, rfl, rfl, HN', HD', HL', HO', HX'⟩
          case measure => simp only [intOf]; omega
      by_cases e2 : kd = 2
      · subst e2
        have HTr : Hid (Yq.trig m who ⟨2, st, fn, cy, rp, ms⟩ = some ⟨2, st, cy, rp, ms, fn - Lq.step m⟩) := rfl
        have HStp : Hid (∀ v, Yw W v m a gw gt #[.int .i64 2, .int .i64 st, .int .i64 fn, .int .i64 cy, .int .i64 rp, .int .i64 ms] #[.int .i64 0, .int .i64 0, .int .i64 cy, .int .i64 rp, .int .i64 ms, .int .i64 0] s c n d → Calls Tryd.prog 22 #[mV m a] v fun e w' => e = .returned (.int .i64 (Lq.step m)) ∧ Below v.heap.size v w') := fun v h => rstep_any v m a h.bx.mem HS.out HWf.out
        have eA : IntKind.i64.wrap (fn - Lq.step m) = fn - Lq.step m := by rw [IntKind.wrap_i64]; omega
        have x0 : v0.cell? ⟨gw, 0, none⟩ = some (.int .i64 2) := HYw.out.rw_.c 0 _ rfl
        have x1 : v0.cell? ⟨gw, 1, none⟩ = some (.int .i64 st) := HYw.out.rw_.c 1 _ rfl
        have x2 : v0.cell? ⟨gw, 2, none⟩ = some (.int .i64 fn) := HYw.out.rw_.c 2 _ rfl
        have x3 : v0.cell? ⟨gw, 3, none⟩ = some (.int .i64 cy) := HYw.out.rw_.c 3 _ rfl
        have x4 : v0.cell? ⟨gw, 4, none⟩ = some (.int .i64 rp) := HYw.out.rw_.c 4 _ rfl
        have x5 : v0.cell? ⟨gw, 5, none⟩ = some (.int .i64 ms) := HYw.out.rw_.c 5 _ rfl
        clear hms
        go_upto_region 15 with fail
        have Hv1 : Hid (Yw W v0.drew m a gw gt #[.int .i64 2, .int .i64 st, .int .i64 fn, .int .i64 cy, .int .i64 rp, .int .i64 ms] #[.int .i64 0, .int .i64 0, .int .i64 cy, .int .i64 rp, .int .i64 ms, .int .i64 0] s c n d) := HYw.out.on (Below.refl _ _).drew
        clear HYw x0 x1 x2 x3 x4 x5
        refine wp_region_held_drew (S := fun w' => RowT 58 w' gw #[.int .i64 2, .int .i64 st, .int .i64 fn, .int .i64 cy, .int .i64 rp, .int .i64 ms] ∧ RowT 27 w' W.heap.size (mCs m a)) (by kernel_rfl) ⟨Hv1.out.rw_, Hv1.out.row⟩ (fun hHeld => ?_)
        refine Hl.takeL (i := 0) (d := 76) (v := ?_) rfl (by kernel_rfl) (by kernel_rfl) (by kernel_rfl) (fun _ _ _ h => h) (by rfl) ?_ (by assumption) ?_
        rotate_left
        · intro w hSw; have q1 := hSw.1.c 1 _ rfl; have q2 := hSw.1.c 2 _ rfl; obtain ⟨y0, y1, y2, y3, y4, y5, y6, y7, y8, y9, y10⟩ := hSw.2.mat; go_simp; (try with_reducible rfl)
        simp only [Act.put, List.setIfInBounds_toArray, List.set_cons_zero, List.set_cons_succ]
        refine Hl.takeL (i := 1) (d := 77) (v := ?_) rfl (by kernel_rfl) (by kernel_rfl) (by kernel_rfl) (fun _ _ _ h => h) (by rfl) ?_ (by assumption) ?_
        rotate_left
        · intro w hSw; have q1 := hSw.1.c 1 _ rfl; have q2 := hSw.1.c 2 _ rfl; obtain ⟨y0, y1, y2, y3, y4, y5, y6, y7, y8, y9, y10⟩ := hSw.2.mat; go_simp; (try with_reducible rfl)
        simp only [Act.put, List.setIfInBounds_toArray, List.set_cons_zero, List.set_cons_succ]
        refine Hl.takeL (i := 2) (d := 78) (v := ?_) rfl (by kernel_rfl) (by kernel_rfl) (by kernel_rfl) (fun _ _ _ h => h) (by rfl) ?_ (by assumption) ?_
        rotate_left
        · intro w hSw; have q1 := hSw.1.c 1 _ rfl; have q2 := hSw.1.c 2 _ rfl; obtain ⟨y0, y1, y2, y3, y4, y5, y6, y7, y8, y9, y10⟩ := hSw.2.mat; go_simp; (try with_reducible rfl)
        simp only [Act.put, List.setIfInBounds_toArray, List.set_cons_zero, List.set_cons_succ]
        refine Hl.takeL (i := 3) (d := 79) (v := ?_) rfl (by kernel_rfl) (by kernel_rfl) (by kernel_rfl) (fun _ _ _ h => h) (by rfl) ?_ (by assumption) ?_
        rotate_left
        · intro w hSw; have q1 := hSw.1.c 1 _ rfl; have q2 := hSw.1.c 2 _ rfl; obtain ⟨y0, y1, y2, y3, y4, y5, y6, y7, y8, y9, y10⟩ := hSw.2.mat; go_simp; (try with_reducible rfl)
        simp only [Act.put, List.setIfInBounds_toArray, List.set_cons_zero, List.set_cons_succ]
        refine Hl.takeL (i := 4) (d := 80) (v := ?_) rfl (by kernel_rfl) (by kernel_rfl) (by kernel_rfl) (fun _ _ _ h => h) (by rfl) ?_ (by assumption) ?_
        rotate_left
        · intro w hSw; have q1 := hSw.1.c 1 _ rfl; have q2 := hSw.1.c 2 _ rfl; obtain ⟨y0, y1, y2, y3, y4, y5, y6, y7, y8, y9, y10⟩ := hSw.2.mat; go_simp; (try with_reducible rfl)
        simp only [Act.put, List.setIfInBounds_toArray, List.set_cons_zero, List.set_cons_succ]
        refine Hl.takeL (i := 7) (d := 83) (v := ?_) rfl (by kernel_rfl) (by kernel_rfl) (by kernel_rfl) (fun _ _ _ h => h) (by rfl) ?_ (by assumption) ?_
        rotate_left
        · intro w hSw; have q1 := hSw.1.c 1 _ rfl; have q2 := hSw.1.c 2 _ rfl; obtain ⟨y0, y1, y2, y3, y4, y5, y6, y7, y8, y9, y10⟩ := hSw.2.mat; go_simp; (try with_reducible rfl)
        simp only [Act.put, List.setIfInBounds_toArray, List.set_cons_zero, List.set_cons_succ]
        generalize v0.drew = v1 at Hv1 hHeld ⊢
        refine Hl.consL (i := 5) rfl (by kernel_rfl) (fun K' hK' => ?_)
        go_simp
        refine (HStp.out _ Hv1.out).mono ?_
        rintro e v2 ⟨rfl, hb⟩
        have Hv2 : Hid (Yw W v2 m a gw gt #[.int .i64 2, .int .i64 st, .int .i64 fn, .int .i64 cy, .int .i64 rp, .int .i64 ms] #[.int .i64 0, .int .i64 0, .int .i64 cy, .int .i64 rp, .int .i64 ms, .int .i64 0] s c n d) := Hv1.out.on hb
        clear hb Hv1 hHeld HStp
        try go_wp2_with fail
        refine hK'.out _ _ ⟨Hv2.out.rw_, Hv2.out.row⟩ (fun hHeld => ?_)
        clear hK' K'
        refine Hl.takeL (i := 6) (d := 82) (v := ?_) rfl (by kernel_rfl) (by kernel_rfl) (by kernel_rfl) (fun _ _ _ h => h) (by rfl) ?_ (by assumption) ?_
        rotate_left
        · intro w hSw; have q1 := hSw.1.c 1 _ rfl; have q2 := hSw.1.c 2 _ rfl; obtain ⟨y0, y1, y2, y3, y4, y5, y6, y7, y8, y9, y10⟩ := hSw.2.mat; go_simp; (try with_reducible rfl)
        simp only [Act.put, List.setIfInBounds_toArray, List.set_cons_zero, List.set_cons_succ]
        refine Hl.consL (i := 8) rfl (by kernel_rfl) (fun K' hK' => ?_)
        have hf := Hv2.out.rt.f 0
        have hcl : v2.cell? ⟨gt, 0, none⟩ = some (.int .i64 0) := Hv2.out.rt.c 0 _ rfl
        have Hv3 : Hid (Yw W (v2.setCell ⟨gt, 0, none⟩ (.int .i64 2)) m a gw gt #[.int .i64 2, .int .i64 st, .int .i64 fn, .int .i64 cy, .int .i64 rp, .int .i64 ms] #[.int .i64 2, .int .i64 0, .int .i64 cy, .int .i64 rp, .int .i64 ms, .int .i64 0] s c n d) := Hv2.out.set 0 _
        go_simp
        clear hHeld
        refine hK'.out _ _ ⟨Hv3.out.rw_, Hv3.out.row⟩ (fun hHeld => ?_)
        clear hK' K' hf hcl Hv2
        generalize v2.setCell ⟨gt, 0, none⟩ (.int .i64 2) = v3 at Hv3 hHeld ⊢
        refine Hl.takeL (i := 9) (d := 84) (v := ?_) rfl (by kernel_rfl) (by kernel_rfl) (by kernel_rfl) (fun _ _ _ h => h) (by rfl) ?_ (by assumption) ?_
        rotate_left
        · intro w hSw; have q1 := hSw.1.c 1 _ rfl; have q2 := hSw.1.c 2 _ rfl; obtain ⟨y0, y1, y2, y3, y4, y5, y6, y7, y8, y9, y10⟩ := hSw.2.mat; go_simp; (try with_reducible rfl)
        simp only [Act.put, List.setIfInBounds_toArray, List.set_cons_zero, List.set_cons_succ]
        refine Hl.consL (i := 10) rfl (by kernel_rfl) (fun K' hK' => ?_)
        have hf := Hv3.out.rt.f 1
        have hcl : v3.cell? ⟨gt, 1, none⟩ = some (.int .i64 0) := Hv3.out.rt.c 1 _ rfl
        have Hv4 : Hid (Yw W (v3.setCell ⟨gt, 1, none⟩ (.int .i64 st)) m a gw gt #[.int .i64 2, .int .i64 st, .int .i64 fn, .int .i64 cy, .int .i64 rp, .int .i64 ms] #[.int .i64 2, .int .i64 st, .int .i64 cy, .int .i64 rp, .int .i64 ms, .int .i64 0] s c n d) := Hv3.out.set 1 _
        go_simp
        clear hHeld
        refine hK'.out _ _ ⟨Hv4.out.rw_, Hv4.out.row⟩ (fun hHeld => ?_)
        clear hK' K' hf hcl Hv3
        generalize v3.setCell ⟨gt, 1, none⟩ (.int .i64 st) = v4 at Hv4 hHeld ⊢
        refine Hl.takeL (i := 11) (d := 85) (v := ?_) rfl (by kernel_rfl) (by kernel_rfl) (by kernel_rfl) (fun _ _ _ h => h) (by rfl) ?_ (by assumption) ?_
        rotate_left
        · intro w hSw; have q1 := hSw.1.c 1 _ rfl; have q2 := hSw.1.c 2 _ rfl; obtain ⟨y0, y1, y2, y3, y4, y5, y6, y7, y8, y9, y10⟩ := hSw.2.mat; go_simp; (try with_reducible rfl)
        simp only [Act.put, List.setIfInBounds_toArray, List.set_cons_zero, List.set_cons_succ]
        refine Hl.consL (i := 12) rfl (by kernel_rfl) (fun K' hK' => ?_)
        have hf := Hv4.out.rt.f 5
        have hcl : v4.cell? ⟨gt, 5, none⟩ = some (.int .i64 0) := Hv4.out.rt.c 5 _ rfl
        have Hv5 : Hid (Yw W (v4.setCell ⟨gt, 5, none⟩ (.int .i64 (fn - Lq.step m))) m a gw gt #[.int .i64 2, .int .i64 st, .int .i64 fn, .int .i64 cy, .int .i64 rp, .int .i64 ms] #[.int .i64 2, .int .i64 st, .int .i64 cy, .int .i64 rp, .int .i64 ms, .int .i64 (fn - Lq.step m)] s c n d) := Hv4.out.set 5 _
        go_simp
        clear hHeld
        refine hK'.out _ _ ⟨Hv5.out.rw_, Hv5.out.row⟩ (fun hHeld => ?_)
        clear hK' K' hf hcl Hv4
        generalize v4.setCell ⟨gt, 5, none⟩ (.int .i64 (fn - Lq.step m)) = v5 at Hv5 hHeld ⊢
        refine wpAnyH_done (by kernel_rfl) ?_ _
        clear hHeld
        have t0 : v5.cell? ⟨gt, 0, none⟩ = some (.int .i64 2) := Hv5.out.rt.c 0 _ rfl
        have t1 : v5.cell? ⟨gt, 1, none⟩ = some (.int .i64 st) := Hv5.out.rt.c 1 _ rfl
        have t2 : v5.cell? ⟨gt, 2, none⟩ = some (.int .i64 cy) := Hv5.out.rt.c 2 _ rfl
        have t3 : v5.cell? ⟨gt, 3, none⟩ = some (.int .i64 rp) := Hv5.out.rt.c 3 _ rfl
        have t4 : v5.cell? ⟨gt, 4, none⟩ = some (.int .i64 ms) := Hv5.out.rt.c 4 _ rfl
        have t5 : v5.cell? ⟨gt, 5, none⟩ = some (.int .i64 (fn - Lq.step m)) := Hv5.out.rt.c 5 _ rfl
        go_wp2_with fail
        refine (HLay.out _ d s c n ⟨2, st, cy, rp, ms, (fn - Lq.step m)⟩ HN.out Hv5.out.ol HLn.out Hv5.out.bel.size).mono ?_
        rintro e w9 ⟨s', c', n', hn', rfl, ho', hb'⟩
        have HN' : Hid (n' = (Yq.lay d ⟨2, st, cy, rp, ms, (fn - Lq.step m)⟩).length) := hn'
        have HO' : Hid (Sg.OL 36 6 W.heap.size w9 s' c' n' ((Yq.lay d ⟨2, st, cy, rp, ms, (fn - Lq.step m)⟩).flatMap tC)) := ho'
        have HX' : Hid (Bx W w9 W.heap.size m a) := Hv5.out.bx.on hb'
        have HD' : Hid (Yq.lay d ⟨2, st, cy, rp, ms, (fn - Lq.step m)⟩ = Yq.wins m who (m.windows.take (k + 1))) := by
          show _ = _
          rw [HW1.out]
          unfold Yq.put
          rw [HTr.out]
        have HL' : Hid ((Yq.lay d ⟨2, st, cy, rp, ms, (fn - Lq.step m)⟩).length ≤ k + 1) := by show _ ≤ _; rw [Yq.len_lay]; have := HLd.out; omega
        clear hn' ho' hb' Hv5 HW1 HTr t0 t1 t2 t3 t4 t5
        go_wp2_with fail
        go_roundw
        case rel => exact ⟨k + 1, s', c', n', _, by omega, rfl, rfl, HN', HD', HL', HO', HX'⟩
        case measure => simp only [intOf]; omega
      have HTr : Hid (Yq.trig m who ⟨kd, st, fn, cy, rp, ms⟩ = none) := by show _ = _; unfold Yq.trig; rw [if_neg e1, if_neg e2]
      have e1b : (kd == 1) = false := beq_eq_false_iff_ne.2 e1
      have e2b : (kd == 2) = false := beq_eq_false_iff_ne.2 e2
      have x0 : v0.cell? ⟨gw, 0, none⟩ = some (.int .i64 kd) := HYw.out.rw_.c 0 _ rfl
      have x1 : v0.cell? ⟨gw, 1, none⟩ = some (.int .i64 st) := HYw.out.rw_.c 1 _ rfl
      have x2 : v0.cell? ⟨gw, 2, none⟩ = some (.int .i64 fn) := HYw.out.rw_.c 2 _ rfl
      have x3 : v0.cell? ⟨gw, 3, none⟩ = some (.int .i64 cy) := HYw.out.rw_.c 3 _ rfl
      have x4 : v0.cell? ⟨gw, 4, none⟩ = some (.int .i64 rp) := HYw.out.rw_.c 4 _ rfl
      have x5 : v0.cell? ⟨gw, 5, none⟩ = some (.int .i64 ms) := HYw.out.rw_.c 5 _ rfl
      have HO' : Hid (Sg.OL 36 6 W.heap.size v0 s c n (d.flatMap tC)) := HYw.out.ol
      have HX' : Hid (Bx W v0 W.heap.size m a) := HYw.out.bx
      have HD' : Hid (d = Yq.wins m who (m.windows.take (k + 1))) := by
        show _ = _
        rw [HW1.out]
        unfold Yq.put
        rw [HTr.out]
      have HL' : Hid (d.length ≤ k + 1) := Nat.le_succ_of_le HLd.out
      clear HYw HW1 HTr hms
      go_wp2_with fail
      go_roundw
      case rel => exact ⟨k + 1, s, c, n, d, by omega, rfl, rfl, HN, HD', HL', HO', HX'⟩
      case measure => simp only [intOf]; omega
    · obtain rfl : k = m.windows.length := by omega
      have kn : ¬ ((m.windows.length : Int) < (m.windows.length : Int)) := by omega
      have HRk : Hid (∀ w, Bx W w W.heap.size m a → Calls Tryd.prog 24 #[mV m a, .int .i64 who] w fun e w' => e = .returned (.int .i64 (Mx.rank m who)) ∧ Below w.heap.size w w') := fun w h => rrank_any w m a who h.mem HS.out
      have HBt : Hid (∀ w r, Bx W w W.heap.size m a → Calls Tryd.prog 25 #[mV m a, .int .i64 r] w fun e w' => e = .returned (.int .i64 (Yq.beat m r)) ∧ Below w.heap.size w w') := fun w r h => rbeat_any w m a r h.mem HS.out HWf.out
      have HWt : Hid (∀ w, Bx W w W.heap.size m a → Calls Tryd.prog 19 #[mV m a] w fun e w' => e = .returned (.int .i64 (Yq.watch m)) ∧ Below w.heap.size w w') := fun w h => rwatch_any w m a h.mem HS.out HWf.out
      have HDe : Hid (d = Yq.wins m who m.windows) := by show _ = _; have := HD.out; rwa [List.take_length] at this
      have HLe : Hid (d.length ≤ 16) := Nat.le_trans HLd.out hlen
      clear HD HLd
      go_wp2_with fail
      refine (HRk.out _ HX.out).mono ?_
      rintro e w2 ⟨rfl, hb⟩
      replace HX : Hid (Bx W w2 W.heap.size m a) := HX.out.on hb
      replace HO : Hid (Sg.OL 36 6 W.heap.size w2 s c n (d.flatMap tC)) := HO.out.on hb
      clear hb HRk y0 y1 y2 y3 y4 y5 y6 y7 y8 y9 y10
      have HRf : Hid (Yq.refs m who d = if 0 ≤ Mx.rank m who then Yq.lay (Yq.lay d ⟨4, m.length, 0, 1, 0, 0⟩) ⟨4, Yq.beat m (Mx.rank m who), 0, 1, 1, 0⟩ else d) := rfl
      generalize Mx.rank m who = r at HRf ⊢
      by_cases hr : 0 ≤ r
      · skip
        obtain ⟨y0, y1, y2, y3, y4, y5, y6, y7, y8, y9, y10⟩ := HX.out.row.mat
        go_wp2_with fail
        refine (HLay.out _ d s c n ⟨4, m.length, 0, 1, 0, 0⟩ HN.out HO.out (Nat.le_trans HLe.out (by decide)) HX.out.below.size).mono ?_
        rintro e w3 ⟨s1, c1, n1, hn', rfl, ho', hb⟩
        have HN1 : Hid (n1 = (Yq.lay d ⟨4, m.length, 0, 1, 0, 0⟩).length) := hn'
        have HO1 : Hid (Sg.OL 36 6 W.heap.size w3 s1 c1 n1 ((Yq.lay d ⟨4, m.length, 0, 1, 0, 0⟩).flatMap tC)) := ho'
        replace HX : Hid (Bx W w3 W.heap.size m a) := HX.out.on hb
        have HL1 : Hid ((Yq.lay d ⟨4, m.length, 0, 1, 0, 0⟩).length ≤ 17) := by show _ ≤ _; rw [Yq.len_lay]; exact Nat.le_trans (Nat.succ_le_succ HLe.out) (by decide)
        clear hn' ho' hb
        clear y0 y1 y2 y3 y4 y5 y6 y7 y8 y9 y10
        obtain ⟨y0, y1, y2, y3, y4, y5, y6, y7, y8, y9, y10⟩ := HX.out.row.mat
        go_wp2_with fail
        refine (HBt.out _ r HX.out).mono ?_
        rintro e w4 ⟨rfl, hb⟩
        replace HX : Hid (Bx W w4 W.heap.size m a) := HX.out.on hb
        replace HO1 : Hid (Sg.OL 36 6 W.heap.size w4 s1 c1 n1 ((Yq.lay d ⟨4, m.length, 0, 1, 0, 0⟩).flatMap tC)) := HO1.out.on hb
        clear hb y0 y1 y2 y3 y4 y5 y6 y7 y8 y9 y10
        go_wp2_with fail
        refine (HLay.out _ (Yq.lay d ⟨4, m.length, 0, 1, 0, 0⟩) s1 c1 n1 ⟨4, Yq.beat m r, 0, 1, 1, 0⟩ HN1.out HO1.out (Nat.le_trans HL1.out (by decide)) HX.out.below.size).mono ?_
        rintro e w4b ⟨s2, c2, n2, hn', rfl, ho', hb⟩
        have HN2 : Hid (n2 = (Yq.lay (Yq.lay d ⟨4, m.length, 0, 1, 0, 0⟩) ⟨4, Yq.beat m r, 0, 1, 1, 0⟩).length) := hn'
        have HO2 : Hid (Sg.OL 36 6 W.heap.size w4b s2 c2 n2 ((Yq.lay (Yq.lay d ⟨4, m.length, 0, 1, 0, 0⟩) ⟨4, Yq.beat m r, 0, 1, 1, 0⟩).flatMap tC)) := ho'
        replace HX : Hid (Bx W w4b W.heap.size m a) := HX.out.on hb
        have HL2 : Hid ((Yq.lay (Yq.lay d ⟨4, m.length, 0, 1, 0, 0⟩) ⟨4, Yq.beat m r, 0, 1, 1, 0⟩).length ≤ 18) := by show _ ≤ _; rw [Yq.len_lay]; exact Nat.le_trans (Nat.succ_le_succ HL1.out) (by decide)
        clear hn' ho' hb
        obtain ⟨y0, y1, y2, y3, y4, y5, y6, y7, y8, y9, y10⟩ := HX.out.row.mat
        go_wp2_with fail
        refine (HWt.out _ HX.out).mono ?_
        rintro e w5 ⟨rfl, hb⟩
        replace HX : Hid (Bx W w5 W.heap.size m a) := HX.out.on hb
        have HOz : Hid (Sg.OL 36 6 W.heap.size w5 s2 c2 n2 ((Yq.lay (Yq.lay d ⟨4, m.length, 0, 1, 0, 0⟩) ⟨4, Yq.beat m r, 0, 1, 1, 0⟩).flatMap tC)) := HO2.out.on hb
        clear hb y0 y1 y2 y3 y4 y5 y6 y7 y8 y9 y10
        go_wp2_with fail
        refine (HLay.out _ (Yq.lay (Yq.lay d ⟨4, m.length, 0, 1, 0, 0⟩) ⟨4, Yq.beat m r, 0, 1, 1, 0⟩) s2 c2 n2 ⟨5, Yq.watch m, 0, 1, 0, 0⟩ HN2.out HOz.out (Nat.le_trans HL2.out (by decide)) HX.out.below.size).mono ?_
        rintro e w6 ⟨sz, cz, nz, hn', rfl, ho', hb⟩
        have HNz : Hid (nz = (Yq.lay (Yq.lay (Yq.lay d ⟨4, m.length, 0, 1, 0, 0⟩) ⟨4, Yq.beat m r, 0, 1, 1, 0⟩) ⟨5, Yq.watch m, 0, 1, 0, 0⟩).length) := hn'
        have HOz : Hid (Sg.OL 36 6 W.heap.size w6 sz cz nz ((Yq.lay (Yq.lay (Yq.lay d ⟨4, m.length, 0, 1, 0, 0⟩) ⟨4, Yq.beat m r, 0, 1, 1, 0⟩) ⟨5, Yq.watch m, 0, 1, 0, 0⟩).flatMap tC)) := ho'
        replace HX : Hid (Bx W w6 W.heap.size m a) := HX.out.on hb
        have HLz : Hid ((Yq.lay (Yq.lay (Yq.lay d ⟨4, m.length, 0, 1, 0, 0⟩) ⟨4, Yq.beat m r, 0, 1, 1, 0⟩) ⟨5, Yq.watch m, 0, 1, 0, 0⟩).length ≤ 1000) := by show _ ≤ _; rw [Yq.len_lay]; exact Nat.le_trans (Nat.succ_le_succ HL2.out) (by decide)
        clear hn' ho' hb
        go_wp2
        go_ret
        refine ⟨sz, cz, nz, ?_, rfl, ?_, HX.out.below⟩
        · rw [HVe.out, ← HDe.out, HRf.out, if_pos hr]; exact HNz.out
        · rw [HVe.out, ← HDe.out, HRf.out, if_pos hr]; exact HOz.out
      · skip
        obtain ⟨y0, y1, y2, y3, y4, y5, y6, y7, y8, y9, y10⟩ := HX.out.row.mat
        go_wp2_with fail
        refine (HWt.out _ HX.out).mono ?_
        rintro e w5 ⟨rfl, hb⟩
        replace HX : Hid (Bx W w5 W.heap.size m a) := HX.out.on hb
        have HOz : Hid (Sg.OL 36 6 W.heap.size w5 s c n (d.flatMap tC)) := HO.out.on hb
        clear hb y0 y1 y2 y3 y4 y5 y6 y7 y8 y9 y10
        go_wp2_with fail
        refine (HLay.out _ d s c n ⟨5, Yq.watch m, 0, 1, 0, 0⟩ HN.out HOz.out (Nat.le_trans HLe.out (by decide)) HX.out.below.size).mono ?_
        rintro e w6 ⟨sz, cz, nz, hn', rfl, ho', hb⟩
        have HNz : Hid (nz = (Yq.lay d ⟨5, Yq.watch m, 0, 1, 0, 0⟩).length) := hn'
        have HOz : Hid (Sg.OL 36 6 W.heap.size w6 sz cz nz ((Yq.lay d ⟨5, Yq.watch m, 0, 1, 0, 0⟩).flatMap tC)) := ho'
        replace HX : Hid (Bx W w6 W.heap.size m a) := HX.out.on hb
        have HLz : Hid ((Yq.lay d ⟨5, Yq.watch m, 0, 1, 0, 0⟩).length ≤ 1000) := by show _ ≤ _; rw [Yq.len_lay]; exact Nat.le_trans (Nat.succ_le_succ HLe.out) (by decide)
        clear hn' ho' hb
        go_wp2
        go_ret
        refine ⟨sz, cz, nz, ?_, rfl, ?_, HX.out.below⟩
        · rw [HVe.out, ← HDe.out, HRf.out, if_neg (by omega)]; exact HNz.out
        · rw [HVe.out, ← HDe.out, HRf.out, if_neg (by omega)]; exact HOz.out
theorem rplan_any (W : World) (m : Mx.M) (a : Ma) (who : Int) (hm : MIn W m a) (hS : Mx.Small m) (hwf : Mx.Wf m) : Tells Tryd.prog 10 #[mV m a, .int .i64 who] W (Yq.plan m who) :=
  (rplanO_any W m a who hm hS hwf).mono fun e w' ⟨s, c, n, h1, h2, h3, h4⟩ => ⟨s, c, n, h1, h2, h3.sl.li, h4⟩
end Go.Proofs.YtnbfnipdiffphaaDoor
