/- Package window, over the landed code: At, Owner, Free, Kinds; it does what is said of it. -/
import Derived.Test.YtmfehobpbpkcaaaDoorWd
import Derived.Test.YtmfehobpbpkcaaaDoorP1
namespace Go.Proofs.YtmfehobpbpkcaaaDoor
open Go.RowKit Go.WideShapes
set_option linter.unusedVariables false

theorem Wq.kind_in {m : Mx.M} (hP : Lq.Passes m) (c u : Int) : kindOf m c u = 0 ∨ kindOf m c u = 1 ∨ kindOf m c u = 2 ∨ kindOf m c u = 3 := by
  have hc : (Lq.check m).2 = 0 := by rw [Lq.check_of hP]
  rcases at_cases hc c u with ⟨_, h, _⟩ | ⟨i, x, _, h, hx, _⟩
  · unfold kindOf; rw [h]; exact Or.inl rfl
  · unfold kindOf
    rw [h]
    have := Lq.win_of hP.is (List.mem_of_getElem? hx)
    simp only [Mx.winOk, Mx.within, Bool.and_eq_true, decide_eq_true_eq] at this
    show x.kind = 0 ∨ x.kind = 1 ∨ x.kind = 2 ∨ x.kind = 3
    omega
theorem Wq.own_none {m : Mx.M} {c u : Int} (h : Lq.getW m (atW m c u) = none) : owner m c u = -1 := by unfold owner; rw [h]
theorem Wq.own_other {m : Mx.M} {c u : Int} {x : Mx.Win} (h : Lq.getW m (atW m c u) = some x) (hk : x.kind ≠ 1) : owner m c u = -1 := by unfold owner; rw [h]; simp [hk]
theorem Wq.own_msg {m : Mx.M} (hP : Lq.Passes m) {c u : Int} {i : Nat} {x : Mx.Win} (hx : m.windows[i]? = some x) (h : Lq.getW m (atW m c u) = some x) (hk : x.kind = 1) : ∃ (j : Nat) (y : Mx.Msg), x.msg = (j : Int) ∧ j < 1000 ∧ j < m.messages.length ∧ m.messages[j]? = some y ∧ owner m c u = y.owner := by
  have he := hP.wins i (List.getElem?_eq_some_iff.1 hx).1
  unfold Lq.eWin at he
  rw [hx] at he
  dsimp only at he
  have hn : Lq.noMsg m x = false := by
    cases hn : Lq.noMsg m x with
    | false => rfl
    | true => rw [hn] at he; simp at he
  unfold Lq.noMsg at hn
  rw [hk] at hn
  unfold owner
  rw [h]
  simp only [hk, if_true]
  cases hg : Lq.noMsg.getMsg m x.msg with
  | none => rw [hg] at hn; simp at hn
  | some y =>
    unfold Lq.noMsg.getMsg at hg
    split at hg
    · have hl := (List.getElem?_eq_some_iff.1 hg).1
      have := (Mx.small_is hP.is).b
      exact ⟨x.msg.toNat, y, by omega, by omega, hl, hg, rfl⟩
    · cases hg

set_option maxRecDepth 100000 in
set_option maxHeartbeats 4000000 in
theorem wn_at (w : World) (hT : Tab w) (m : Mx.M) (a : Ma) (c u : Int) (hm : MIn w m a) (hS : Mx.Small m) (hwf : Mx.Wf m) (hc : (Lit.int .i64 c).wf = true) (hu : (Lit.int .i64 u).wf = true) : Ob.Looks Tryd.prog 9 #[mV m a, .int .i64 c, .int .i64 u] w (.int .i64 (Wq.atW m c u)) := by
  have HX : Hid (Bx w (w.alloc (.cells (mCs m a) 27)) w.heap.size m a) := Bx.mk' hm
  have HTb : Hid (∀ w', Below w.heap.size w w' → Tab w') := fun w' hb => hT.below hb
  have HRf : Hid (∀ (w1 : World) (b : Bool), Bx w w1 w.heap.size m a → ((Lq.check m).2 != 0) = b → Calls Tryd.prog 17 #[mV m a] w1 fun e w' => e = .returned (.bool b) ∧ Below w1.heap.size w1 w') := fun w1 b h hb => hb ▸ wn_refused w1 (HTb.out _ h.below) m a h.mem hS hwf
  have HUn : Hid (∀ w1, Bx w w1 w.heap.size m a → 0 ≤ u → u ≤ 4000 → Calls Tryd.prog 18 #[mV m a, .int .i64 c, .int .i64 u, .int .i64 (u + 1)] w1 fun e w' => ∃ s c', e = .returned (.slice s 1 c') ∧ Sg.OL 3 1 w1.heap.size w' s c' 1 ((Wq.un m c u 1).flatMap mC1) ∧ Below w1.heap.size w1 w') := fun w1 h h0 h1 => by
    have := wn_units w1 m a c u 1 h.mem hS hwf hc h0 h1 (by decide)
    exact this
  obtain ⟨y0, y1, y2, y3, y4, y5, y6, y7, y8, y9, y10⟩ := HX.out.row.mat
  unfold Ob.Looks
  obtain ⟨R, hR⟩ : ∃ R, Wq.atW m c u = R := ⟨_, rfl⟩
  rw [hR]
  have HR : Hid (Wq.atW m c u = R) := hR
  clear hR hS hwf hc hT hm
  by_cases hck : (Lq.check m).2 = 0
  rotate_left
  · obtain rfl : R = -1 := by rw [← HR.out]; exact Wq.at_fail hck c u
    have hrf : ((Lq.check m).2 != 0) = true := bne_iff_ne.2 hck
    clear HR HUn HTb hck
    skip
    go_enter Tryd.func9, Tryd.ntmps9
    go_wp2_with fail
    refine (HRf.out _ _ HX.out hrf).mono ?_
    rintro e w1 ⟨rfl, hb⟩
    replace HX : Hid (Bx w w1 w.heap.size m a) := HX.out.on hb
    clear hb HRf hrf y0 y1 y2 y3 y4 y5 y6 y7 y8 y9 y10
    obtain ⟨y0, y1, y2, y3, y4, y5, y6, y7, y8, y9, y10⟩ := HX.out.row.mat
    go_wp2
    go_ret
    exact ⟨rfl, HX.out.below⟩
  have HP : Hid (Lq.Passes m) := Lq.passes_of hck
  have hrf : ((Lq.check m).2 != 0) = false := by rw [hck]; rfl
  obtain ⟨ub1, ub2⟩ := bounds_i64 hu
  clear hu
  by_cases u0 : u < 0
  · obtain rfl : R = -1 := by rw [← HR.out]; exact Wq.at_none HP.out c u (Or.inl u0)
    have d0 : decide (u < 0) = true := decide_eq_true u0
    clear HR HUn HTb hck HP u0
    skip
    go_enter Tryd.func9, Tryd.ntmps9
    go_wp2_with fail
    refine (HRf.out _ _ HX.out hrf).mono ?_
    rintro e w1 ⟨rfl, hb⟩
    replace HX : Hid (Bx w w1 w.heap.size m a) := HX.out.on hb
    clear hb HRf hrf y0 y1 y2 y3 y4 y5 y6 y7 y8 y9 y10
    obtain ⟨y0, y1, y2, y3, y4, y5, y6, y7, y8, y9, y10⟩ := HX.out.row.mat
    go_wp2
    go_ret
    exact ⟨rfl, HX.out.below⟩
  · have d0 : decide (u < 0) = false := decide_eq_false u0
    by_cases u1 : m.length ≤ u
    · obtain rfl : R = -1 := by rw [← HR.out]; exact Wq.at_none HP.out c u (Or.inr u1)
      have d1 : decide (m.length ≤ u) = true := decide_eq_true u1
      clear HR HUn HTb hck HP u0 u1
      skip
      go_enter Tryd.func9, Tryd.ntmps9
      go_wp2_with fail
      refine (HRf.out _ _ HX.out hrf).mono ?_
      rintro e w1 ⟨rfl, hb⟩
      replace HX : Hid (Bx w w1 w.heap.size m a) := HX.out.on hb
      clear hb HRf hrf y0 y1 y2 y3 y4 y5 y6 y7 y8 y9 y10
      obtain ⟨y0, y1, y2, y3, y4, y5, y6, y7, y8, y9, y10⟩ := HX.out.row.mat
      go_wp2
      go_ret
      exact ⟨rfl, HX.out.below⟩
    · have d1 : decide (m.length ≤ u) = false := decide_eq_false u1
      have hl := (Lq.cyc_of HP.out.is).2.2.2.1
      have h0 : 0 ≤ u := by omega
      have h1 : u ≤ 4000 := by omega
      have HRe : Hid (Mx.firstAt (Wq.has c u) m.windows = R) := by show _ = _; rw [← HR.out, Wq.at_ok hck]
      clear HR HTb hck HP u0 u1 hl ub1 ub2
      skip
      go_enter Tryd.func9, Tryd.ntmps9
      go_wp2_with fail
      refine (HRf.out _ _ HX.out hrf).mono ?_
      rintro e w1 ⟨rfl, hb⟩
      replace HX : Hid (Bx w w1 w.heap.size m a) := HX.out.on hb
      clear hb HRf hrf y0 y1 y2 y3 y4 y5 y6 y7 y8 y9 y10
      obtain ⟨y0, y1, y2, y3, y4, y5, y6, y7, y8, y9, y10⟩ := HX.out.row.mat
      go_wp2_with fail
      refine (HUn.out _ HX.out h0 h1).mono ?_
      rintro e w2 ⟨s, c', rfl, hO, hb⟩
      have HB : Hid (Below w.heap.size w w2) := HX.out.below.trans (hb.mono HX.out.below.size)
      obtain ⟨g, o, cur, rfl, hh, hce, hfr⟩ := Mb.elem hO (by decide)
      have c0 : w2.cell? ⟨g, o, none⟩ = some (.int .i64 R) := hce 0 _ (fm1_at (by rw [← HRe.out]; simp [Wq.un]))
      clear hb hO hh hce hfr HUn HX HRe y0 y1 y2 y3 y4 y5 y6 y7 y8 y9 y10
      go_wp2
      go_ret
      exact ⟨rfl, HB.out⟩

set_option maxRecDepth 100000 in
set_option maxHeartbeats 4000000 in
theorem wn_owner (w : World) (hT : Tab w) (m : Mx.M) (a : Ma) (c u : Int) (hm : MIn w m a) (hS : Mx.Small m) (hwf : Mx.Wf m) (hc : (Lit.int .i64 c).wf = true) (hu : (Lit.int .i64 u).wf = true) : Ob.Looks Tryd.prog 10 #[mV m a, .int .i64 c, .int .i64 u] w (.int .i64 (Wq.owner m c u)) := by
  have HX : Hid (Bx w (w.alloc (.cells (mCs m a) 27)) w.heap.size m a) := Bx.mk' hm
  have HAt : Hid (∀ R, Wq.atW m c u = R → Calls Tryd.prog 9 #[mV m a, .int .i64 c, .int .i64 u] (w.alloc (.cells (mCs m a) 27)) fun e w' => e = .returned (.int .i64 R) ∧ Below (w.alloc (.cells (mCs m a) 27)).heap.size (w.alloc (.cells (mCs m a) 27)) w') := fun R hR => hR ▸ wn_at _ (hT.below HX.out.below) m a c u HX.out.mem hS hwf hc hu
  obtain ⟨y0, y1, y2, y3, y4, y5, y6, y7, y8, y9, y10⟩ := HX.out.row.mat
  unfold Ob.Looks
  obtain ⟨V, hV⟩ : ∃ V, Wq.owner m c u = V := ⟨_, rfl⟩
  rw [hV]
  have hml : m.messages.length ≤ 1000 := hS.b
  have hwl : m.windows.length ≤ 1000 := hS.c
  have HV : Hid (Wq.owner m c u = V) := hV
  clear hV hS hwf hc hT hm hu
  have hcases : (Wq.atW m c u = -1 ∧ V = -1) ∨ ∃ (i : Nat) (x : Mx.Win), Wq.atW m c u = (i : Int) ∧ m.windows[i]? = some x ∧ i < m.windows.length ∧ ((x.kind ≠ 1 ∧ V = -1) ∨ (x.kind = 1 ∧ ∃ (j : Nat) (y : Mx.Msg), x.msg = (j : Int) ∧ j < 1000 ∧ j < m.messages.length ∧ m.messages[j]? = some y ∧ V = y.owner)) := by
    by_cases hck : (Lq.check m).2 = 0
    · rcases Wq.at_cases hck c u with ⟨h1, h2, _⟩ | ⟨i, x, h1, h2, hx, _⟩
      · exact Or.inl ⟨h1, by rw [← HV.out]; exact Wq.own_none h2⟩
      · refine Or.inr ⟨i, x, h1, hx, (List.getElem?_eq_some_iff.1 hx).1, ?_⟩
        by_cases hk : x.kind = 1
        · obtain ⟨j, y, e1, e2, e3, e4, e5⟩ := Wq.own_msg (Lq.passes_of hck) hx h2 hk
          exact Or.inr ⟨hk, j, y, e1, e2, e3, e4, by rw [← HV.out, e5]⟩
        · exact Or.inl ⟨hk, by rw [← HV.out]; exact Wq.own_other h2 hk⟩
    · have h1 := Wq.at_fail hck c u
      exact Or.inl ⟨h1, by rw [← HV.out]; exact Wq.own_none (by rw [h1]; rfl)⟩
  clear HV
  rcases hcases with ⟨hat, rfl⟩ | ⟨i, x, hat, hx, hil, hrest⟩
  · go_enter Tryd.func10, Tryd.ntmps10
    go_wp2_with fail
    refine (HAt.out _ hat).mono ?_
    rintro e w1 ⟨rfl, hb⟩
    replace HX : Hid (Bx w w1 w.heap.size m a) := HX.out.on hb
    clear hb HAt y0 y1 y2 y3 y4 y5 y6 y7 y8 y9 y10
    obtain ⟨y0, y1, y2, y3, y4, y5, y6, y7, y8, y9, y10⟩ := HX.out.row.mat
    go_wp2
    go_ret
    exact ⟨rfl, HX.out.below⟩
  have iI : (i : Int) < (m.windows.length : Int) := by omega
  have ib : (i : Int) < 1000 := by omega
  have inb : ((i : Int) == -1) = false := by simp
  go_enter Tryd.func10, Tryd.ntmps10
  go_wp2_with fail
  refine (HAt.out _ hat).mono ?_
  rintro e w1 ⟨rfl, hb⟩
  replace HX : Hid (Bx w w1 w.heap.size m a) := HX.out.on hb
  clear hb HAt hat y0 y1 y2 y3 y4 y5 y6 y7 y8 y9 y10
  obtain ⟨gw, ow, hs, _, c0, c1, c2, c3, c4, c5⟩ := HX.out.mem.window hx
  obtain ⟨y0, y1, y2, y3, y4, y5, y6, y7, y8, y9, y10⟩ := HX.out.row.mat
  rw [hs] at y10
  rcases hrest with ⟨hk, rfl⟩ | ⟨hk, j, y, hmj, jb, jl, hy, rfl⟩
  · have kb : (x.kind != 1) = true := bne_iff_ne.2 hk
    clear hk hx
    go_wp2
    go_ret
    exact ⟨rfl, HX.out.below⟩
  · rw [hk] at c0
    rw [hmj] at c5
    have jI : (j : Int) < (m.messages.length : Int) := by omega
    have jb' : (j : Int) < 1000 := by omega
    obtain ⟨gm, om, hsm, _, d0, d1, d2⟩ := HX.out.mem.message hy
    rw [hsm] at y9
    clear hk hx hmj hy
    go_wp2_with fail
    go_region
    go_wp2
    go_ret
    exact ⟨rfl, HX.out.below.drew⟩

set_option maxRecDepth 100000 in
set_option maxHeartbeats 4000000 in
theorem wn_free (w : World) (hT : Tab w) (m : Mx.M) (a : Ma) (c : Int) (hm : MIn w m a) (hS : Mx.Small m) (hwf : Mx.Wf m) (hc : (Lit.int .i64 c).wf = true) : Ob.Looks Tryd.prog 13 #[mV m a, .int .i64 c] w (.int .i64 (Wq.free m c : Int)) := by
  have HX : Hid (Bx w (w.alloc (.cells (mCs m a) 27)) w.heap.size m a) := Bx.mk' hm
  have HTb : Hid (∀ w', Below w.heap.size w w' → Tab w') := fun w' hb => hT.below hb
  have HRf : Hid (∀ (w1 : World) (b : Bool), Bx w w1 w.heap.size m a → ((Lq.check m).2 != 0) = b → Calls Tryd.prog 17 #[mV m a] w1 fun e w' => e = .returned (.bool b) ∧ Below w1.heap.size w1 w') := fun w1 b h hb => hb ▸ wn_refused w1 (HTb.out _ h.below) m a h.mem hS hwf
  have HKi : Hid (∀ (w1 : World) (n : Nat), Bx w w1 w.heap.size m a → (Lq.check m).2 = 0 → m.length = (n : Int) → Calls Tryd.prog 22 #[mV m a, .int .i64 c] w1 fun e w' => ∃ s c', e = .returned (.slice s n c') ∧ Sg.OL 3 1 w1.heap.size w' s c' n (((List.range n).map (fun u : Nat => Wq.kindOf m c (u : Int))).flatMap mC1) ∧ Below w1.heap.size w1 w') := fun w1 n h h1 h2 => wn_kinds w1 m a c n h.mem h1 h2 hc
  obtain ⟨y0, y1, y2, y3, y4, y5, y6, y7, y8, y9, y10⟩ := HX.out.row.mat
  unfold Ob.Looks
  clear hS hwf hc hT hm
  by_cases hck : (Lq.check m).2 = 0
  rotate_left
  · have h0 : Wq.free m c = 0 := if_neg hck
    rw [h0]
    have hrf : ((Lq.check m).2 != 0) = true := bne_iff_ne.2 hck
    clear h0 HKi HTb hck
    go_enter Tryd.func13, Tryd.ntmps13
    go_wp2_with fail
    refine (HRf.out _ _ HX.out hrf).mono ?_
    rintro e w1 ⟨rfl, hb⟩
    replace HX : Hid (Bx w w1 w.heap.size m a) := HX.out.on hb
    clear hb HRf hrf y0 y1 y2 y3 y4 y5 y6 y7 y8 y9 y10
    go_wp2
    go_ret
    exact ⟨rfl, HX.out.below⟩
  have HP : Hid (Lq.Passes m) := Lq.passes_of hck
  have hrf : ((Lq.check m).2 != 0) = false := by rw [hck]; rfl
  obtain ⟨n, hn⟩ : ∃ n : Nat, m.length = (n : Int) := Int.eq_ofNat_of_zero_le (by have := (Lq.cyc_of HP.out.is).2.2.1; omega)
  have hn4 : n ≤ 4000 := by have := (Lq.cyc_of HP.out.is).2.2.2.1; omega
  have HK := fun w1 h => HKi.out w1 n h hck hn
  have HKh : Hid (∀ w1, Bx w w1 w.heap.size m a → Calls Tryd.prog 22 #[mV m a, .int .i64 c] w1 fun e w' => ∃ s c', e = .returned (.slice s n c') ∧ Sg.OL 3 1 w1.heap.size w' s c' n (((List.range n).map (fun u : Nat => Wq.kindOf m c (u : Int))).flatMap mC1) ∧ Below w1.heap.size w1 w') := HK
  have HV : Hid (Wq.free m c = (List.range n).countP (fun u : Nat => Wq.loose (Wq.kindOf m c (u : Int)))) := by show _ = _; unfold Wq.free; rw [if_pos hck, hn, Int.toNat_natCast]
  have HIn : Hid (∀ u : Nat, Wq.kindOf m c (u : Int) = 0 ∨ Wq.kindOf m c (u : Int) = 1 ∨ Wq.kindOf m c (u : Int) = 2 ∨ Wq.kindOf m c (u : Int) = 3) := fun u => Wq.kind_in HP.out c u
  clear HKi HTb hck hn HK HP
  go_enter Tryd.func13, Tryd.ntmps13
  go_wp2_with fail
  refine (HRf.out _ _ HX.out hrf).mono ?_
  rintro e w1 ⟨rfl, hb⟩
  replace HX : Hid (Bx w w1 w.heap.size m a) := HX.out.on hb
  clear hb HRf hrf y0 y1 y2 y3 y4 y5 y6 y7 y8 y9 y10
  obtain ⟨y0, y1, y2, y3, y4, y5, y6, y7, y8, y9, y10⟩ := HX.out.row.mat
  go_wp2_with fail
  refine (HKh.out _ HX.out).mono ?_
  rintro e w2 ⟨s, c', rfl, hO, hb⟩
  have HB : Hid (Below w.heap.size w w2) := HX.out.below.trans (hb.mono HX.out.below.size)
  have HO : Hid (Sg.OL 3 1 w1.heap.size w2 s c' n (((List.range n).map (fun u : Nat => Wq.kindOf m c (u : Int))).flatMap mC1)) := hO
  clear hb hO HKh HX y0 y1 y2 y3 y4 y5 y6 y7 y8 y9 y10
  go_wp2_with fail
  go_loopw [14, 5, 7] (fun vi vn _v7 wr => ∃ k : Nat, k ≤ n ∧ vi = .int .i64 (k : Int) ∧ vn = .int .i64 (((List.range k).countP (fun u : Nat => Wq.loose (Wq.kindOf m c (u : Int))) : Nat) : Int) ∧ wr = w2) (fun vi _ _ _ => n - (intOf vi).toNat)
  case atStart => exact ⟨0, Nat.zero_le _, rfl, rfl, rfl⟩
  case round =>
    obtain ⟨k, hk, rfl, rfl, rfl⟩ := hrel
    by_cases hlt : k < n
    · have kI : (k : Int) < (n : Int) := by omega
      have kb : (k : Int) < 4000 := by omega
      obtain ⟨K, hK⟩ : ∃ K, Wq.kindOf m c (k : Int) = K := ⟨_, rfl⟩
      have hin := HIn.out k
      have hsuc : (List.range (k + 1)).countP (fun u : Nat => Wq.loose (Wq.kindOf m c (u : Int))) = (List.range k).countP (fun u : Nat => Wq.loose (Wq.kindOf m c (u : Int))) + if Wq.loose K then 1 else 0 := by
        rw [List.range_succ, List.countP_append, List.countP_singleton, hK]
      rw [hK] at hin
      have HS : Hid ((List.range (k + 1)).countP (fun u : Nat => Wq.loose (Wq.kindOf m c (u : Int))) = (List.range k).countP (fun u : Nat => Wq.loose (Wq.kindOf m c (u : Int))) + if Wq.loose K then 1 else 0) := hsuc
      have hcl : (List.range k).countP (fun u : Nat => Wq.loose (Wq.kindOf m c (u : Int))) ≤ k := Nat.le_trans List.countP_le_length (by rw [List.length_range]; exact Nat.le_refl _)
      obtain ⟨g, o, cur, rfl, hh, hce, hfr⟩ := Mb.elem HO.out (by omega)
      have c1 : wr.cell? ⟨g, o + k, none⟩ = some (.int .i64 K) := hce _ _ (fm1_at (by rw [List.getElem?_map, List.getElem?_range hlt]; simp [hK]))
      clear hK hh hce hfr hsuc HO
      generalize hcn : (List.range k).countP (fun u : Nat => Wq.loose (Wq.kindOf m c (u : Int))) = cn at HS hcl ⊢
      clear hcn
      have cnb : (cn : Int) ≤ 4000 := by omega
      rcases hin with rfl | rfl | rfl | rfl
      · have HS2 : Hid ((List.range (k + 1)).countP (fun u : Nat => Wq.loose (Wq.kindOf m c (u : Int))) = cn + 1) := HS.out
        clear HS
        go_wp2_with fail
        go_roundw
        case rel => exact ⟨k + 1, by omega, rfl, by rw [HS2.out]; rfl, trivial⟩
        case measure => simp only [intOf]; omega
      · have HS2 : Hid ((List.range (k + 1)).countP (fun u : Nat => Wq.loose (Wq.kindOf m c (u : Int))) = cn + 0) := HS.out
        clear HS
        go_wp2_with fail
        go_roundw
        case rel => exact ⟨k + 1, by omega, rfl, by rw [HS2.out]; rfl, trivial⟩
        case measure => simp only [intOf]; omega
      · have HS2 : Hid ((List.range (k + 1)).countP (fun u : Nat => Wq.loose (Wq.kindOf m c (u : Int))) = cn + 0) := HS.out
        clear HS
        go_wp2_with fail
        go_roundw
        case rel => exact ⟨k + 1, by omega, rfl, by rw [HS2.out]; rfl, trivial⟩
        case measure => simp only [intOf]; omega
      · have HS2 : Hid ((List.range (k + 1)).countP (fun u : Nat => Wq.loose (Wq.kindOf m c (u : Int))) = cn + 1) := HS.out
        clear HS
        go_wp2_with fail
        go_roundw
        case rel => exact ⟨k + 1, by omega, rfl, by rw [HS2.out]; rfl, trivial⟩
        case measure => simp only [intOf]; omega
    · obtain rfl : k = n := by omega
      have HVe := HV.out
      clear HIn
      go_wp2
      go_ret
      exact ⟨by rw [HVe]; rfl, HB.out⟩

set_option maxRecDepth 100000 in
set_option maxHeartbeats 4000000 in
theorem wn_kindsS (w : World) (hT : Tab w) (m : Mx.M) (a : Ma) (c : Int) (hm : MIn w m a) (hS : Mx.Small m) (hwf : Mx.Wf m) (hc : (Lit.int .i64 c).wf = true) : Ob.Looks Tryd.prog 12 #[mV m a, .int .i64 c] w (.string ⟨(Wq.kinds m c).toArray⟩) := by
  have HX : Hid (Bx w (w.alloc (.cells (mCs m a) 27)) w.heap.size m a) := Bx.mk' hm
  have HTb : Hid (∀ w', Below w.heap.size w w' → Tab w') := fun w' hb => hT.below hb
  have HRf : Hid (∀ (w1 : World) (b : Bool), Bx w w1 w.heap.size m a → ((Lq.check m).2 != 0) = b → Calls Tryd.prog 17 #[mV m a] w1 fun e w' => e = .returned (.bool b) ∧ Below w1.heap.size w1 w') := fun w1 b h hb => hb ▸ wn_refused w1 (HTb.out _ h.below) m a h.mem hS hwf
  have HKi : Hid (∀ (w1 : World) (n : Nat), Bx w w1 w.heap.size m a → (Lq.check m).2 = 0 → m.length = (n : Int) → Calls Tryd.prog 22 #[mV m a, .int .i64 c] w1 fun e w' => ∃ s c', e = .returned (.slice s n c') ∧ Sg.OL 3 1 w1.heap.size w' s c' n (((List.range n).map (fun u : Nat => Wq.kindOf m c (u : Int))).flatMap mC1) ∧ Below w1.heap.size w1 w') := fun w1 n h h1 h2 => wn_kinds w1 m a c n h.mem h1 h2 hc
  obtain ⟨y0, y1, y2, y3, y4, y5, y6, y7, y8, y9, y10⟩ := HX.out.row.mat
  unfold Ob.Looks
  clear hS hwf hc hT hm
  by_cases hck : (Lq.check m).2 = 0
  rotate_left
  · have h0 : Wq.kinds m c = [] := if_neg hck
    rw [h0]
    have hrf : ((Lq.check m).2 != 0) = true := bne_iff_ne.2 hck
    clear h0 HKi HTb hck
    go_enter Tryd.func12, Tryd.ntmps12
    go_wp2_with fail
    refine (HRf.out _ _ HX.out hrf).mono ?_
    rintro e w1 ⟨rfl, hb⟩
    replace HX : Hid (Bx w w1 w.heap.size m a) := HX.out.on hb
    clear hb HRf hrf y0 y1 y2 y3 y4 y5 y6 y7 y8 y9 y10
    go_wp2
    go_ret
    exact ⟨rfl, HX.out.below⟩
  have HP : Hid (Lq.Passes m) := Lq.passes_of hck
  have hrf : ((Lq.check m).2 != 0) = false := by rw [hck]; rfl
  obtain ⟨n, hn⟩ : ∃ n : Nat, m.length = (n : Int) := Int.eq_ofNat_of_zero_le (by have := (Lq.cyc_of HP.out.is).2.2.1; omega)
  have hn4 : n ≤ 4000 := by have := (Lq.cyc_of HP.out.is).2.2.2.1; omega
  have HK := fun w1 h => HKi.out w1 n h hck hn
  have HKh : Hid (∀ w1, Bx w w1 w.heap.size m a → Calls Tryd.prog 22 #[mV m a, .int .i64 c] w1 fun e w' => ∃ s c', e = .returned (.slice s n c') ∧ Sg.OL 3 1 w1.heap.size w' s c' n (((List.range n).map (fun u : Nat => Wq.kindOf m c (u : Int))).flatMap mC1) ∧ Below w1.heap.size w1 w') := HK
  have HV : Hid (Wq.kinds m c = ((List.range (n)).map (fun u : Nat => Wq.sgn (Wq.kindOf m c (u : Int))))) := by show _ = _; unfold Wq.kinds; rw [if_pos hck, hn, Int.toNat_natCast]
  have HIn : Hid (∀ u : Nat, Wq.kindOf m c (u : Int) = 0 ∨ Wq.kindOf m c (u : Int) = 1 ∨ Wq.kindOf m c (u : Int) = 2 ∨ Wq.kindOf m c (u : Int) = 3) := fun u => Wq.kind_in HP.out c u
  clear HKi HTb hck hn HK HP
  go_enter Tryd.func12, Tryd.ntmps12
  go_wp2_with fail
  refine (HRf.out _ _ HX.out hrf).mono ?_
  rintro e w1 ⟨rfl, hb⟩
  replace HX : Hid (Bx w w1 w.heap.size m a) := HX.out.on hb
  clear hb HRf hrf y0 y1 y2 y3 y4 y5 y6 y7 y8 y9 y10
  obtain ⟨y0, y1, y2, y3, y4, y5, y6, y7, y8, y9, y10⟩ := HX.out.row.mat
  go_wp2_with fail
  refine (HKh.out _ HX.out).mono ?_
  rintro e w2 ⟨s, c', rfl, hO, hb⟩
  have HB : Hid (Below w.heap.size w w2) := HX.out.below.trans (hb.mono HX.out.below.size)
  have HO : Hid (Sg.OL 3 1 w1.heap.size w2 s c' n (((List.range n).map (fun u : Nat => Wq.kindOf m c (u : Int))).flatMap mC1)) := hO
  clear hb hO HKh HX y0 y1 y2 y3 y4 y5 y6 y7 y8 y9 y10
  go_wp2_with fail
  go_loopw [14, 5, 7] (fun vi vo _v7 wr => ∃ (k : Nat) (so : Option Addr) (co : Nat), k ≤ n ∧ vi = .int .i64 (k : Int) ∧ vo = .slice so k co ∧ Hid (By w2.heap.size wr so co k ((List.range (k)).map (fun u : Nat => Wq.sgn (Wq.kindOf m c (u : Int))))) ∧ Hid (Below w2.heap.size w2 wr)) (fun vi _ _ _ => n - (intOf vi).toNat)
  case atStart => exact ⟨0, none, 0, Nat.zero_le _, rfl, rfl, Sg.OL.nil _ _ _ _, Below.refl _ _⟩
  case round =>
    obtain ⟨k, so, co, hk, rfl, rfl, HY, HB2⟩ := hrel
    by_cases hlt : k < n
    · have kI : (k : Int) < (n : Int) := by omega
      have kb : (k : Int) < 4000 := by omega
      obtain ⟨K, hK⟩ : ∃ K, Wq.kindOf m c (k : Int) = K := ⟨_, rfl⟩
      have hin := HIn.out k
      have HS : Hid (((List.range (k + 1)).map (fun u : Nat => Wq.sgn (Wq.kindOf m c (u : Int)))) = ((List.range (k)).map (fun u : Nat => Wq.sgn (Wq.kindOf m c (u : Int)))) ++ [Wq.sgn K]) := by show _ = _; rw [List.range_succ, List.map_append, ← hK]; rfl
      rw [hK] at hin
      obtain ⟨g, o, cur, rfl, hh, hce, hfr⟩ := Mb.elem (HO.out.on HB2.out) (by omega)
      have c1 : wr.cell? ⟨g, o + k, none⟩ = some (.int .i64 K) := hce _ _ (fm1_at (by rw [List.getElem?_map, List.getElem?_range hlt]; simp [hK]))
      clear hK hh hce hfr HO
      generalize ((List.range (k)).map (fun u : Nat => Wq.sgn (Wq.kindOf m c (u : Int)))) = L0 at HS HY
      rcases hin with rfl | rfl | rfl | rfl
      · have HS2 : Hid (((List.range (k + 1)).map (fun u : Nat => Wq.sgn (Wq.kindOf m c (u : Int)))) = L0 ++ [45]) := HS.out
        clear HS
        go_upto_region 7 with fail
        clear c1
        have HY5 : Hid (∀ ob, By w2.heap.size (wr.alloc ob) so co k L0) := fun ob => HY.out.on ((Below.refl _ _).alloc (Nat.le_refl _) _)
        have HB5 : Hid (∀ ob, Below w2.heap.size w2 (wr.alloc ob)) := fun ob => HB2.out.alloc HB2.out.size _
        have HSn : Hid (Src Tryd.prog 1 47 (.slice (some ⟨wr.heap.size, 0, none⟩) 1 1) 1 [.int .u8 45] (wr.alloc (.cells #[.int .u8 45] 5))) := Sg.src_new Tryd.underlying47 wr 5 1 1 _ rfl (by intro u hu; simp only [List.mem_singleton] at hu; subst hu; rfl)
        clear HY HB2
        go_wp2_with (refine Sg.wpList_appendO elU8 rfl (.tmp 18) (.tmp 21) 47 rfl rfl rfl (HY5.out _) (HB5.out _).size HSn.out (show k + 1 ≤ 1000000 by omega) ?_; intro s2 c2 n2 u2 hn2 h2 hk2; have HBu : Hid (Below w2.heap.size w2 u2) := (HB5.out _).trans ((HY5.out _).below hk2 (HB5.out _).size); have hYu : By w2.heap.size u2 s2 c2 n2 ((List.range (k + 1)).map (fun u : Nat => Wq.sgn (Wq.kindOf m c (u : Int)))) := (by rw [HS2.out]; exact By.app (r := [45]) h2); have HYu : Hid (By w2.heap.size u2 s2 c2 n2 ((List.range (k + 1)).map (fun u : Nat => Wq.sgn (Wq.kindOf m c (u : Int))))) := hYu; clear hYu; subst hn2; clear h2 hk2 HY5 HB5 HSn HS2)
        go_roundw
        case rel => exact ⟨k + 1, s2, c2, by omega, rfl, rfl, HYu, HBu⟩
        case measure => simp only [intOf]; omega
      · have HS2 : Hid (((List.range (k + 1)).map (fun u : Nat => Wq.sgn (Wq.kindOf m c (u : Int)))) = L0 ++ [69]) := HS.out
        clear HS
        go_upto_region 7 with fail
        clear c1
        have HY5 : Hid (∀ ob, By w2.heap.size (wr.alloc ob) so co k L0) := fun ob => HY.out.on ((Below.refl _ _).alloc (Nat.le_refl _) _)
        have HB5 : Hid (∀ ob, Below w2.heap.size w2 (wr.alloc ob)) := fun ob => HB2.out.alloc HB2.out.size _
        have HSn : Hid (Src Tryd.prog 1 47 (.slice (some ⟨wr.heap.size, 0, none⟩) 1 1) 1 [.int .u8 69] (wr.alloc (.cells #[.int .u8 69] 5))) := Sg.src_new Tryd.underlying47 wr 5 1 1 _ rfl (by intro u hu; simp only [List.mem_singleton] at hu; subst hu; rfl)
        clear HY HB2
        go_wp2_with (refine Sg.wpList_appendO elU8 rfl (.tmp 18) (.tmp 21) 47 rfl rfl rfl (HY5.out _) (HB5.out _).size HSn.out (show k + 1 ≤ 1000000 by omega) ?_; intro s2 c2 n2 u2 hn2 h2 hk2; have HBu : Hid (Below w2.heap.size w2 u2) := (HB5.out _).trans ((HY5.out _).below hk2 (HB5.out _).size); have hYu : By w2.heap.size u2 s2 c2 n2 ((List.range (k + 1)).map (fun u : Nat => Wq.sgn (Wq.kindOf m c (u : Int)))) := (by rw [HS2.out]; exact By.app (r := [69]) h2); have HYu : Hid (By w2.heap.size u2 s2 c2 n2 ((List.range (k + 1)).map (fun u : Nat => Wq.sgn (Wq.kindOf m c (u : Int))))) := hYu; clear hYu; subst hn2; clear h2 hk2 HY5 HB5 HSn HS2)
        go_roundw
        case rel => exact ⟨k + 1, s2, c2, by omega, rfl, rfl, HYu, HBu⟩
        case measure => simp only [intOf]; omega
      · have HS2 : Hid (((List.range (k + 1)).map (fun u : Nat => Wq.sgn (Wq.kindOf m c (u : Int)))) = L0 ++ [65]) := HS.out
        clear HS
        go_upto_region 7 with fail
        clear c1
        have HY5 : Hid (∀ ob, By w2.heap.size (wr.alloc ob) so co k L0) := fun ob => HY.out.on ((Below.refl _ _).alloc (Nat.le_refl _) _)
        have HB5 : Hid (∀ ob, Below w2.heap.size w2 (wr.alloc ob)) := fun ob => HB2.out.alloc HB2.out.size _
        have HSn : Hid (Src Tryd.prog 1 47 (.slice (some ⟨wr.heap.size, 0, none⟩) 1 1) 1 [.int .u8 65] (wr.alloc (.cells #[.int .u8 65] 5))) := Sg.src_new Tryd.underlying47 wr 5 1 1 _ rfl (by intro u hu; simp only [List.mem_singleton] at hu; subst hu; rfl)
        clear HY HB2
        go_wp2_with (refine Sg.wpList_appendO elU8 rfl (.tmp 18) (.tmp 21) 47 rfl rfl rfl (HY5.out _) (HB5.out _).size HSn.out (show k + 1 ≤ 1000000 by omega) ?_; intro s2 c2 n2 u2 hn2 h2 hk2; have HBu : Hid (Below w2.heap.size w2 u2) := (HB5.out _).trans ((HY5.out _).below hk2 (HB5.out _).size); have hYu : By w2.heap.size u2 s2 c2 n2 ((List.range (k + 1)).map (fun u : Nat => Wq.sgn (Wq.kindOf m c (u : Int)))) := (by rw [HS2.out]; exact By.app (r := [65]) h2); have HYu : Hid (By w2.heap.size u2 s2 c2 n2 ((List.range (k + 1)).map (fun u : Nat => Wq.sgn (Wq.kindOf m c (u : Int))))) := hYu; clear hYu; subst hn2; clear h2 hk2 HY5 HB5 HSn HS2)
        go_roundw
        case rel => exact ⟨k + 1, s2, c2, by omega, rfl, rfl, HYu, HBu⟩
        case measure => simp only [intOf]; omega
      · have HS2 : Hid (((List.range (k + 1)).map (fun u : Nat => Wq.sgn (Wq.kindOf m c (u : Int)))) = L0 ++ [70]) := HS.out
        clear HS
        go_upto_region 7 with fail
        clear c1
        have HY5 : Hid (∀ ob, By w2.heap.size (wr.alloc ob) so co k L0) := fun ob => HY.out.on ((Below.refl _ _).alloc (Nat.le_refl _) _)
        have HB5 : Hid (∀ ob, Below w2.heap.size w2 (wr.alloc ob)) := fun ob => HB2.out.alloc HB2.out.size _
        have HSn : Hid (Src Tryd.prog 1 47 (.slice (some ⟨wr.heap.size, 0, none⟩) 1 1) 1 [.int .u8 70] (wr.alloc (.cells #[.int .u8 70] 5))) := Sg.src_new Tryd.underlying47 wr 5 1 1 _ rfl (by intro u hu; simp only [List.mem_singleton] at hu; subst hu; rfl)
        clear HY HB2
        go_wp2_with (refine Sg.wpList_appendO elU8 rfl (.tmp 18) (.tmp 21) 47 rfl rfl rfl (HY5.out _) (HB5.out _).size HSn.out (show k + 1 ≤ 1000000 by omega) ?_; intro s2 c2 n2 u2 hn2 h2 hk2; have HBu : Hid (Below w2.heap.size w2 u2) := (HB5.out _).trans ((HY5.out _).below hk2 (HB5.out _).size); have hYu : By w2.heap.size u2 s2 c2 n2 ((List.range (k + 1)).map (fun u : Nat => Wq.sgn (Wq.kindOf m c (u : Int)))) := (by rw [HS2.out]; exact By.app (r := [70]) h2); have HYu : Hid (By w2.heap.size u2 s2 c2 n2 ((List.range (k + 1)).map (fun u : Nat => Wq.sgn (Wq.kindOf m c (u : Int))))) := hYu; clear hYu; subst hn2; clear h2 hk2 HY5 HB5 HSn HS2)
        go_roundw
        case rel => exact ⟨k + 1, s2, c2, by omega, rfl, rfl, HYu, HBu⟩
        case measure => simp only [intOf]; omega
    · obtain rfl : k = n := by omega
      have hcv := HY.out.conv
      rw [← HV.out] at hcv
      clear HIn
      go_wp2
      go_ret
      exact ⟨rfl, HB.out.trans (HB2.out.mono HB.out.size)⟩

theorem winSpec : WinSpec Tab where
  at_ := fun w m a c u hT hm hS hw hc hu => wn_at w hT m a c u hm hS hw hc hu
  owner := fun w m a c u hT hm hS hw hc hu => wn_owner w hT m a c u hm hS hw hc hu
  free := fun w m a c hT hm hS hw hc => wn_free w hT m a c hm hS hw hc
  kinds := fun w m a c hT hm hS hw hc => wn_kindsS w hT m a c hm hS hw hc

end Go.Proofs.YtmfehobpbpkcaaaDoor
