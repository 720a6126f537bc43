/- Package window, over the landed code: the kinds of a cycle's units. -/
import Derived.Test.YtmfehobpbpkcaaaDoorWc
import Derived.Test.YtmfehobpbpkcaaaDoorMc
import Derived.Test.YtmfehobpbpkcaaaDoorMe
namespace Go.Proofs.YtmfehobpbpkcaaaDoor
open Go.RowKit Go.WideShapes
set_option linter.unusedVariables false

namespace Wq
open Mx
theorem at_ok {m : M} (h : (Lq.check m).2 = 0) (c u : Int) : atW m c u = firstAt (has c u) m.windows := if_pos h
/-- The windows of units, the first of them told as kinds. -/
def kn (m : M) (c : Int) (n k : Nat) : List Int := (List.range n).map (fun u : Nat => if u < k then kindOf m c (u : Int) else firstAt (has c (u : Int)) m.windows)
theorem kn_len (m : M) (c : Int) (n k : Nat) : (kn m c n k).length = n := by unfold kn; rw [List.length_map, List.length_range]
theorem kn_zero (m : M) (c : Int) (n : Nat) : un m c 0 n = kn m c n 0 := by
  unfold un kn
  refine List.map_congr_left fun u _ => ?_
  rw [if_neg (Nat.not_lt_zero _), Int.zero_add]
theorem kn_end (m : M) (c : Int) (n : Nat) : kn m c n n = (List.range n).map (fun u : Nat => kindOf m c (u : Int)) := by
  unfold kn
  refine List.map_congr_left fun u hu => ?_
  rw [if_pos (List.mem_range.1 hu)]
theorem kn_at {m : M} {c : Int} {n k : Nat} (hk : k < n) : (kn m c n k)[k]? = some (firstAt (has c (k : Int)) m.windows) := by
  unfold kn
  rw [List.getElem?_map, List.getElem?_range hk]
  simp
theorem kn_set {m : M} {c : Int} {n k : Nat} : (kn m c n k).set k (kindOf m c (k : Int)) = kn m c n (k + 1) := by
  apply List.ext_getElem?
  intro j
  rw [List.getElem?_set]
  unfold kn
  simp only [List.getElem?_map, List.length_map, List.length_range]
  by_cases hj : k = j
  · subst hj
    by_cases hn : k < n
    · rw [List.getElem?_range hn]
      simp [hn]
    · rw [List.getElem?_eq_none (by rw [List.length_range]; omega)]
      simp [hn]
  · rw [if_neg hj]
    by_cases hn : j < n
    · rw [List.getElem?_range hn]
      simp only [Option.map_some]
      by_cases h2 : j < k
      · rw [if_pos h2, if_pos (by omega)]
      · rw [if_neg h2, if_neg (by omega)]
    · rw [List.getElem?_eq_none (by rw [List.length_range]; omega)]
      rfl
theorem kn_none {m : M} (h : (Lq.check m).2 = 0) {c u : Int} (hn : firstAt (has c u) m.windows = -1) : kindOf m c u = 0 := by
  unfold kindOf
  rw [at_ok h, hn]
  rfl
theorem kn_some {m : M} (h : (Lq.check m).2 = 0) {c u : Int} {i : Nat} {x : Win} (hn : firstAt (has c u) m.windows = (i : Int)) (hx : m.windows[i]? = some x) : kindOf m c u = x.kind := by
  unfold kindOf Lq.getW
  rw [at_ok h, hn, if_pos (by omega), Int.toNat_natCast, hx]
end Wq
theorem fm1 (l : List Int) : l.flatMap mC1 = l.map (fun x => Value.int .i64 x) := by
  induction l with
  | nil => rfl
  | cons x l ih => rw [List.flatMap_cons, ih]; rfl
theorem fm1_set (l : List Int) (k : Nat) (x : Int) : (l.flatMap mC1).set k (.int .i64 x) = (l.set k x).flatMap mC1 := by rw [fm1, fm1, List.map_set]
theorem fm1_at {l : List Int} {k : Nat} {x : Int} (h : l[k]? = some x) : (l.flatMap mC1)[k]? = some (.int .i64 x) := by rw [fm1, List.getElem?_map, h]; rfl

set_option maxRecDepth 100000 in
set_option maxHeartbeats 4000000 in
theorem wn_kinds (W : World) (m : Mx.M) (a : Ma) (c : Int) (n : Nat) (hm : MIn W m a) (hck : (Lq.check m).2 = 0) (hn : m.length = (n : Int)) (hc : (Lit.int .i64 c).wf = true) : Calls Tryd.prog 22 #[mV m a, .int .i64 c] W fun e w' => ∃ s c', e = .returned (.slice s n c') ∧ Sg.OL 3 1 W.heap.size w' s c' n (((List.range n).map (fun u : Nat => Wq.kindOf m c (u : Int))).flatMap mC1) ∧ Below W.heap.size W w' := by
  have HP := Lq.passes_of hck
  have HX : Hid (Bx W (W.alloc (.cells (mCs m a) 27)) W.heap.size m a) := Bx.mk' hm
  have HM : Hid (MIn W m a) := hm
  have hn2 : n ≤ 4000 := by have := (Lq.cyc_of HP.is).2.2.2.1; omega
  have HUn : Hid (Calls Tryd.prog 18 #[mV m a, .int .i64 c, .int .i64 0, .int .i64 m.length] (W.alloc (.cells (mCs m a) 27)) fun e w' => ∃ s c', e = .returned (.slice s n c') ∧ Sg.OL 3 1 (W.alloc (.cells (mCs m a) 27)).heap.size w' s c' n ((Wq.kn m c n 0).flatMap mC1) ∧ Below (W.alloc (.cells (mCs m a) 27)).heap.size (W.alloc (.cells (mCs m a) 27)) w') := by
    have := wn_units (W.alloc (.cells (mCs m a) 27)) m a c 0 n HX.out.mem (Mx.small_is HP.is) (Mx.wf_is HP.is) hc (by decide) (by decide) hn2
    rw [Int.zero_add, ← hn, Wq.kn_zero] at this
    exact this
  have HE : Hid (Wq.kn m c n n = (List.range n).map (fun u : Nat => Wq.kindOf m c (u : Int))) := Wq.kn_end m c n
  have HKn : Hid (∀ k : Nat, Mx.firstAt (Wq.has c (k : Int)) m.windows = -1 → (Wq.kn m c n k).set k 0 = Wq.kn m c n (k + 1)) := fun k h => by show _ = _; rw [← Wq.kn_set, Wq.kn_none hck h]
  have HKs : Hid (∀ (k i : Nat) (x : Mx.Win), Mx.firstAt (Wq.has c (k : Int)) m.windows = (i : Int) → m.windows[i]? = some x → ((Wq.kn m c n k).set k 0).set k x.kind = Wq.kn m c n (k + 1)) := fun k i x h hx => by show _ = _; rw [List.set_set, ← Wq.kn_set, Wq.kn_some hck h hx]
  have HF : Hid (∀ k : Nat, (Mx.firstAt (Wq.has c (k : Int)) m.windows = -1) ∨ ∃ (i : Nat) (x : Mx.Win), Mx.firstAt (Wq.has c (k : Int)) m.windows = (i : Int) ∧ i < 1000 ∧ i < m.windows.length ∧ m.windows[i]? = some x) := fun k => by
    rcases Wq.firstAt_cases (Wq.has c (k : Int)) m.windows with ⟨h, _⟩ | ⟨i, x, h, hx, _⟩
    · exact Or.inl h
    · have hl := (List.getElem?_eq_some_iff.1 hx).1
      have := (Mx.small_is HP.is).c
      exact Or.inr ⟨i, x, h, by omega, hl, hx⟩
  rw [← HE.out]
  have HN : Hid (m.length = (n : Int)) := hn
  obtain ⟨y0, y1, y2, y3, y4, y5, y6, y7, y8, y9, y10⟩ := HX.out.row.mat
  clear hm hck hc HP HE hn
  go_enter Tryd.func22, Tryd.ntmps22
  go_wp2_with fail
  refine HUn.out.mono ?_
  rintro e w1 ⟨s, c', rfl, hO, hb⟩
  replace HX : Hid (Bx W w1 W.heap.size m a) := HX.out.on hb
  have HO : Hid (Sg.OL 3 1 W.heap.size w1 s c' n ((Wq.kn m c n 0).flatMap mC1)) := hO.mono (by simp)
  clear hb HUn y0 y1 y2 y3 y4 y5 y6 y7 y8 y9 y10 hO
  go_wp2_with fail
  go_loopw [15, 6, 7] (fun vi _v6 _v7 wr => ∃ k : Nat, k ≤ n ∧ vi = .int .i64 (k : Int) ∧ Hid (Sg.OL 3 1 W.heap.size wr s c' n ((Wq.kn m c n k).flatMap mC1)) ∧ Hid (Bx W wr W.heap.size m a)) (fun vi _ _ _ => n - (intOf vi).toNat)
  case atStart => exact ⟨0, Nat.zero_le _, rfl, HO, HX⟩
  case round =>
    clear HO HX
    obtain ⟨k, hk, rfl, HO, HX⟩ := hrel
    by_cases hlt : k < n
    · have kI : (k : Int) < (n : Int) := by omega
      have kb : (k : Int) < 4000 := by omega
      obtain ⟨r, hr⟩ : ∃ r, Mx.firstAt (Wq.has c (k : Int)) m.windows = r := ⟨_, rfl⟩
      have hat : (Wq.kn m c n k)[k]? = some r := by rw [← hr]; exact Wq.kn_at hlt
      have HFk := HF.out k
      have HKnk := HKn.out k
      have HKsk := HKs.out k
      rw [hr] at HFk HKnk HKsk
      clear hr HKn HKs HF
      obtain ⟨g, o, cur, rfl, hh, hce, hfr⟩ := Mb.elem HO.out (by omega)
      have c1 : wr.cell? ⟨g, o + k, none⟩ = some (.int .i64 r) := hce _ _ (fm1_at hat)
      have f1 : wr.frozen? ⟨g, o + k, none⟩ = false := hfr k
      have HO2 : Hid (Sg.OL 3 1 W.heap.size (wr.setCell ⟨g, o + k, none⟩ (.int .i64 0)) (some ⟨g, o, none⟩) c' n (((Wq.kn m c n k).set k 0).flatMap mC1)) := by
        have := Mb.ol_set HO.out k (.int .i64 0) (by rw [fm1, List.length_map, Wq.kn_len]; exact hlt)
        rw [fm1_set] at this
        exact this
      have HX2 : Hid (Bx W (wr.setCell ⟨g, o + k, none⟩ (.int .i64 0)) W.heap.size m a) := HX.out.grown HM.out HO.out (Kept.set _ _ _ ⟨by have := HO.out.sl.1; omega, rfl⟩)
      clear hce hfr hh HO HX hat
      go_upto_region 6 with fail
      clear c1 f1
      generalize wr.setCell ⟨g, o + k, none⟩ (.int .i64 0) = v at HO2 HX2 ⊢
      rcases HFk with rfl | ⟨i, x, rfl, hi, hil, hx⟩
      · rw [HKnk rfl] at HO2
        clear HKnk HKsk
        go_wp2_with fail
        go_roundw
        case rel => exact ⟨k + 1, by omega, rfl, HO2, HX2⟩
        case measure => simp only [intOf]; omega
      · have hks := HKsk i x rfl hx
        obtain ⟨gw, ow, hs, _, c0, c1, c2, c3, c4, c5⟩ := HX2.out.mem.window hx
        have y10 := HX2.out.row.mat.2.2.2.2.2.2.2.2.2.2
        rw [hs] at y10
        have iI : (i : Int) < (m.windows.length : Int) := by omega
        have ib : (i : Int) < 1000 := by omega
        have inb : ((i : Int) != -1) = true := by simp
        obtain ⟨g', o', cur', e', hh, hce, hfr⟩ := Mb.elem HO2.out (by omega)
        injection e' with e'
        injection e' with e1 e2
        subst e1 e2
        have d1 : v.cell? ⟨g, o + k, none⟩ = some (.int .i64 0) := hce _ _ (fm1_at (by rw [List.getElem?_set_self (by rw [Wq.kn_len]; exact hlt)]))
        have f1 : v.frozen? ⟨g, o + k, none⟩ = false := hfr k
        have HO3 : Hid (Sg.OL 3 1 W.heap.size (v.setCell ⟨g, o + k, none⟩ (.int .i64 x.kind)) (some ⟨g, o, none⟩) c' n ((Wq.kn m c n (k + 1)).flatMap mC1)) := by
          have := Mb.ol_set HO2.out k (.int .i64 x.kind) (by rw [fm1, List.length_map, List.length_set, Wq.kn_len]; exact hlt)
          rw [fm1_set, hks] at this
          exact this
        have HX3 : Hid (Bx W (v.setCell ⟨g, o + k, none⟩ (.int .i64 x.kind)) W.heap.size m a) := HX2.out.grown HM.out HO2.out (Kept.set _ _ _ ⟨by have := HO2.out.sl.1; omega, rfl⟩)
        clear HKnk HKsk hks hx hs hh hce hfr HO2 HX2
        go_upto_region 8 with fail
        clear c0 c1 c2 c3 c4 c5 y10 d1 f1
        generalize v.setCell ⟨g, o + k, none⟩ (.int .i64 x.kind) = v2 at HO3 HX3 ⊢
        go_wp2_with fail
        go_roundw
        case rel => exact ⟨k + 1, by omega, rfl, HO3, HX3⟩
        case measure => simp only [intOf]; omega
    · obtain rfl : k = n := by omega
      clear HKn HKs HF
      go_wp2
      go_ret
      exact ⟨s, c', rfl, HO.out, HX.out.below⟩

end Go.Proofs.YtmfehobpbpkcaaaDoor
