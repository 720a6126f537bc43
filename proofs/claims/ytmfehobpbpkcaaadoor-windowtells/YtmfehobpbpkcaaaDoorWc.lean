/- Package window, over the landed code: what is refused, whether a window has a unit, the windows of units. -/
import Derived.Test.YtmfehobpbpkcaaaDoorWa
import Derived.Test.YtmfehobpbpkcaaaDoorLv
import Derived.Test.YtmfehobpbpkcaaaDoorSg
import Derived.Deep.CutBlock
import Derived.WalkMore
namespace Go.Proofs.YtmfehobpbpkcaaaDoor
open Go.RowKit Go.WideShapes
set_option linter.unusedVariables false

set_option maxRecDepth 100000 in
set_option maxHeartbeats 4000000 in
theorem wn_refused (w : World) (hT : Tab w) (m : Mx.M) (a : Ma) (hm : MIn w m a) (hS : Mx.Small m) (hwf : Mx.Wf m) : Calls Tryd.prog 17 #[mV m a] w fun e w' => e = .returned (.bool ((Lq.check m).2 != 0)) ∧ Below w.heap.size w w' := by
  have HX : Hid (Bx w (w.alloc (.cells (mCs m a) 27)) w.heap.size m a) := Bx.mk' hm
  have HCk : Hid (Calls Tryd.prog 25 #[mV m a] (w.alloc (.cells (mCs m a) 27)) fun e w' => e = .returned (.tuple #[.int .i64 (Lq.check m).1, .int .i64 (Lq.check m).2]) ∧ Below (w.alloc (.cells (mCs m a) 27)).heap.size (w.alloc (.cells (mCs m a) 27)) w') := ck_check _ (hT.below HX.out.below) m a HX.out.mem hS hwf
  obtain ⟨y0, y1, y2, y3, y4, y5, y6, y7, y8, y9, y10⟩ := HX.out.row.mat
  clear hS hwf hT hm
  generalize (Lq.check m).1 = R1 at HCk
  generalize (Lq.check m).2 = R2 at HCk ⊢
  go_enter Tryd.func17, Tryd.ntmps17
  go_wp2_with fail
  refine HCk.out.mono ?_
  rintro e w1 ⟨rfl, hb⟩
  replace HX : Hid (Bx w w1 w.heap.size m a) := HX.out.on hb
  clear hb HCk y0 y1 y2 y3 y4 y5 y6 y7 y8 y9 y10
  go_wp2
  go_ret
  exact ⟨rfl, HX.out.below⟩

set_option maxRecDepth 100000 in
set_option maxHeartbeats 4000000 in
theorem wn_has (w : World) (x : Mx.Win) (c u : Int) (b : Bool) (h1 : (Lit.int .i64 x.cycle).wf = true) (hc : (Lit.int .i64 c).wf = true) (hb : Wq.has c u x = b) : Calls Tryd.prog 26 #[.agg #[.int .i64 x.kind, .int .i64 x.start, .int .i64 x.fin, .int .i64 x.cycle, .int .i64 x.rep, .int .i64 x.msg], .int .i64 c, .int .i64 u] w fun e w' => e = .returned (.bool b) ∧ Below w.heap.size w w' := by
  have r1 : RowT 32 (w.alloc (.cells #[.int .i64 x.kind, .int .i64 x.start, .int .i64 x.fin, .int .i64 x.cycle, .int .i64 x.rep, .int .i64 x.msg] 32)) w.heap.size #[.int .i64 x.kind, .int .i64 x.start, .int .i64 x.fin, .int .i64 x.cycle, .int .i64 x.rep, .int .i64 x.msg] := RowT.new _ w _
  have x1 := r1.c 1 _ rfl
  have x2 := r1.c 2 _ rfl
  have x3 := r1.c 3 _ rfl
  have x4 := r1.c 4 _ rfl
  have HB : Hid (Below w.heap.size w (w.alloc (.cells #[.int .i64 x.kind, .int .i64 x.start, .int .i64 x.fin, .int .i64 x.cycle, .int .i64 x.rep, .int .i64 x.msg] 32))) := (Below.refl _ _).alloc (Nat.le_refl _) _
  have HCm : Hid (∀ (w1 : World) (b : Bool), Mx.comes x.cycle x.rep c = b → Calls Tryd.prog 38 #[.int .i64 x.cycle, .int .i64 x.rep, .int .i64 c] w1 fun e w' => e = .returned (.bool b) ∧ w' = w1) := fun w1 b hb => hb ▸ mk_comes w1 x.cycle x.rep c h1 hc
  clear r1 h1 hc
  by_cases a1 : x.start ≤ u
  · have d1 : decide (x.start ≤ u) = true := decide_eq_true a1
    by_cases a2 : u < x.fin
    · have d2 : decide (u < x.fin) = true := decide_eq_true a2
      obtain rfl : b = Mx.comes x.cycle x.rep c := by rw [← hb]; unfold Wq.has; rw [d1, d2]; simp
      clear a1 a2 hb
      skip
      go_enter Tryd.func26, Tryd.ntmps26
      go_wp2_with fail
      refine (HCm.out _ _ rfl).mono ?_
      rintro e w9 ⟨rfl, rfl⟩
      go_wp2
      go_ret
      exact ⟨by first | rfl | simp, HB.out⟩
    · have d2 : decide (u < x.fin) = false := decide_eq_false a2
      obtain rfl : b = false := by rw [← hb]; unfold Wq.has; rw [d1, d2]; simp
      clear a1 a2 hb
      skip
      go_enter Tryd.func26, Tryd.ntmps26
      go_wp2
      go_ret
      exact ⟨by first | rfl | simp, HB.out⟩
  · have d1 : decide (x.start ≤ u) = false := decide_eq_false a1
    obtain rfl : b = false := by rw [← hb]; unfold Wq.has; rw [d1]; simp
    clear a1 hb
    skip
    go_enter Tryd.func26, Tryd.ntmps26
    go_wp2
    go_ret
    exact ⟨by first | rfl | simp, HB.out⟩

theorem elN : Sg.El Tryd.prog 23 3 1 (.int .i64 0) 8 := ⟨Tryd.underlying23, by kernel_rfl, rfl, by decide⟩
def Wq.un (m : Mx.M) (c f : Int) (k : Nat) : List Int := (List.range k).map (fun i : Nat => Mx.firstAt (Wq.has c (f + (i : Int))) m.windows)
theorem Wq.un_len (m : Mx.M) (c f : Int) (k : Nat) : (un m c f k).length = k := by unfold un; rw [List.length_map, List.length_range]
theorem Wq.un_succ (m : Mx.M) (c f : Int) (k : Nat) : un m c f (k + 1) = un m c f k ++ [Mx.firstAt (Wq.has c (f + (k : Int))) m.windows] := by unfold un; rw [List.range_succ, List.map_append]; rfl
theorem Bx.grown {W v v2 : World} {p : Nat} {m : Mx.M} {a : Ma} {s : Option Addr} {c n : Nat} {C : List Value} (h : Bx W v p m a) (hm : MIn W m a) (hO : Sg.OL 3 1 W.heap.size v s c n C) (hk : Kept (Sg.At_ s c) v v2) : Bx W v2 p m a :=
  have hb : Below W.heap.size W v2 := h.below.trans (hO.below hk h.below.size)
  ⟨hO.row hk h.row (by decide), hm.on hb, hb⟩

set_option maxRecDepth 100000 in
set_option maxHeartbeats 4000000 in
theorem wn_units (W : World) (m : Mx.M) (a : Ma) (c f : Int) (n : Nat) (hm : MIn W m a) (hS : Mx.Small m) (hwf : Mx.Wf m) (hc : (Lit.int .i64 c).wf = true) (hf0 : 0 ≤ f) (hf1 : f ≤ 4000) (hn : n ≤ 4000) : Calls Tryd.prog 18 #[mV m a, .int .i64 c, .int .i64 f, .int .i64 (f + (n : Int))] W fun e w' => ∃ s c', e = .returned (.slice s n c') ∧ Sg.OL 3 1 W.heap.size w' s c' n ((Wq.un m c f n).flatMap mC1) ∧ Below W.heap.size W w' := by
  obtain ⟨as1, ac1, as2, ac2, as3, ac3⟩ := a
  have HX : Hid (Bx W (W.alloc (.cells (mCs m ⟨as1, ac1, as2, ac2, as3, ac3⟩) 27)) W.heap.size m ⟨as1, ac1, as2, ac2, as3, ac3⟩) := Bx.mk' hm
  have HM : Hid (MIn W m ⟨as1, ac1, as2, ac2, as3, ac3⟩) := hm
  have hn3 : (m.windows.length : Int) ≤ 1000 := by have := hS.c; omega
  have HCh : Hid (∀ (w1 : World) (x : Mx.Win) (u : Int) (b : Bool), x ∈ m.windows → Wq.has c u x = b → Calls Tryd.prog 26 #[.agg #[.int .i64 x.kind, .int .i64 x.start, .int .i64 x.fin, .int .i64 x.cycle, .int .i64 x.rep, .int .i64 x.msg], .int .i64 c, .int .i64 u] w1 fun e w' => e = .returned (.bool b) ∧ Below w1.heap.size w1 w') := fun w1 x u b hx hb => wn_has w1 x c u b (hwf.windows x hx).2.2.2.1 hc hb
  have HE1 : Hid (∀ (k : Nat) (u : Int) x, m.windows[k]? = some x → (∀ (j : Nat) y, j < k → m.windows[j]? = some y → Wq.has c u y = false) → Wq.has c u x = true → Mx.firstAt (Wq.has c u) m.windows = (k : Int)) := fun k u x hx hb hh => Mx.firstAt_some (p := fun y => Wq.has c u y) hx hb hh
  have HE2 : Hid (∀ u : Int, (∀ (j : Nat) y, m.windows[j]? = some y → Wq.has c u y = false) → Mx.firstAt (Wq.has c u) m.windows = -1) := fun u hb => Mx.firstAt_none (p := fun y => Wq.has c u y) hb
  clear hm hS hwf hc
  go_enter Tryd.func18, Tryd.ntmps18
  go_wp2_with fail
  go_step3
  go_wp2_with fail
  go_step3
  go_wp2_with fail
  go_loopw [9, 10] (fun vo vi wr => ∃ (k : Nat) (s' : Option Addr) (c' : Nat), k ≤ n ∧ vi = .int .i64 (f + (k : Int)) ∧ vo = .slice s' k c' ∧ Hid (Sg.OL 3 1 W.heap.size wr s' c' k ((Wq.un m c f k).flatMap mC1)) ∧ Hid (Bx W wr W.heap.size m ⟨as1, ac1, as2, ac2, as3, ac3⟩)) (fun _ vi _ => (n : Int).toNat - (intOf vi - f).toNat)
  case atStart => exact ⟨0, none, 0, Nat.zero_le _, by simp, rfl, Sg.OL.nil _ _ _ _, HX⟩
  case round =>
    clear HX
    obtain ⟨k, s', c', hk, rfl, rfl, HO, HX⟩ := hrel
    by_cases hlt : k < n
    · have kI : f + (k : Int) < f + (n : Int) := by omega
      have HU : Hid (Wq.un m c f (k + 1) = Wq.un m c f k ++ [Mx.firstAt (Wq.has c (f + (k : Int))) m.windows]) := Wq.un_succ m c f k
      go_upto_block 1 with fail
      go_cut [9, 11, 12] from 14 to 38 (fun v9 _v11 _v12 wx => ∃ (s2 : Option Addr) (c2 : Nat), v9 = .slice s2 (k + 1) c2 ∧ Hid (Sg.OL 3 1 W.heap.size wx s2 c2 (k + 1) ((Wq.un m c f (k + 1)).flatMap mC1)) ∧ Hid (Bx W wx W.heap.size m ⟨as1, ac1, as2, ac2, as3, ac3⟩))
      case first =>
        obtain ⟨y0, y1, y2, y3, y4, y5, y6, y7, y8, y9, y10⟩ := HX.out.row.mat
        go_wp2_with fail
        clear y0 y1 y2 y3 y4 y5 y6 y7 y8 y9 y10
        go_loopw [22, 9, 11, 12] (fun vj v9 _v11 _v12 wr => ∃ j : Nat, j ≤ m.windows.length ∧ vj = .int .i64 (j : Int) ∧ v9 = .slice s' k c' ∧ Hid (Sg.OL 3 1 W.heap.size wr s' c' k ((Wq.un m c f k).flatMap mC1)) ∧ Hid (Bx W wr W.heap.size m ⟨as1, ac1, as2, ac2, as3, ac3⟩) ∧ Hid (∀ (i : Nat) y, i < j → m.windows[i]? = some y → Wq.has c (f + (k : Int)) y = false)) (fun vj _ _ _ _ => m.windows.length - (intOf vj).toNat)
        case atStart => exact ⟨0, Nat.zero_le _, rfl, rfl, HO, HX, fun i y hi => absurd hi (Nat.not_lt_zero _)⟩
        case round =>
          clear HO HX
          obtain ⟨j, hj, rfl, rfl, HO, HX, HF⟩ := hrel
          by_cases hjl : j < m.windows.length
          · have ji : (j : Int) < (m.windows.length : Int) := by omega
            have jb : (j : Int) < 1000 := by omega
            obtain ⟨x, hx⟩ : ∃ x, m.windows[j]? = some x := ⟨_, List.getElem?_eq_getElem hjl⟩
            have HXe : Hid (m.windows[j]? = some x) := hx
            obtain ⟨gw, ow, hs, _, c0, c1, c2, c3, c4, c5⟩ := HX.out.mem.window hx
            obtain rfl : as3 = some ⟨gw, ow, none⟩ := hs
            have hb1 : Below wr.heap.size wr (wr.alloc (.cells #[.int .i64 x.kind, .int .i64 x.start, .int .i64 x.fin, .int .i64 x.cycle, .int .i64 x.rep, .int .i64 x.msg] 32)) := (Below.refl _ _).alloc (Nat.le_refl _) _
            have HXn : Hid (Bx W (wr.alloc (.cells #[.int .i64 x.kind, .int .i64 x.start, .int .i64 x.fin, .int .i64 x.cycle, .int .i64 x.rep, .int .i64 x.msg] 32)) W.heap.size m _) := HX.out.al _
            have HOn : Hid (Sg.OL 3 1 W.heap.size (wr.alloc (.cells #[.int .i64 x.kind, .int .i64 x.start, .int .i64 x.fin, .int .i64 x.cycle, .int .i64 x.rep, .int .i64 x.msg] 32)) s' c' k ((Wq.un m c f k).flatMap mC1)) := HO.out.on hb1
            have HVn : Hid (RowT 32 (wr.alloc (.cells #[.int .i64 x.kind, .int .i64 x.start, .int .i64 x.fin, .int .i64 x.cycle, .int .i64 x.rep, .int .i64 x.msg] 32)) wr.heap.size #[.int .i64 x.kind, .int .i64 x.start, .int .i64 x.fin, .int .i64 x.cycle, .int .i64 x.rep, .int .i64 x.msg]) := RowT.new _ wr _
            have y10 := HX.out.row.mat.2.2.2.2.2.2.2.2.2.2
            obtain ⟨b, hbb⟩ : ∃ b, Wq.has c (f + (k : Int)) x = b := ⟨_, rfl⟩
            have HC := fun w1 => HCh.out w1 x (f + (k : Int)) b (List.mem_of_getElem? hx) hbb
            have HBb : Hid (Wq.has c (f + (k : Int)) x = b) := hbb
            clear hx HX HO hb1 hbb
            go_upto_region 8 with fail
            clear c0 c1 c2 c3 c4 c5 y10
            generalize wr.alloc (.cells #[.int .i64 x.kind, .int .i64 x.start, .int .i64 x.fin, .int .i64 x.cycle, .int .i64 x.rep, .int .i64 x.msg] 32) = v at HXn HOn HVn ⊢
            generalize wr.heap.size = q at HVn ⊢
            have HX := HXn
            have HO := HOn
            have l0 := HVn.out.c 0 _ rfl
            have l1 := HVn.out.c 1 _ rfl
            have l2 := HVn.out.c 2 _ rfl
            have l3 := HVn.out.c 3 _ rfl
            have l4 := HVn.out.c 4 _ rfl
            have l5 := HVn.out.c 5 _ rfl
            clear HXn HOn HVn
            cases b
            · have HF2 : Hid (∀ (i : Nat) y, i < j + 1 → m.windows[i]? = some y → Wq.has c (f + (k : Int)) y = false) := Wq.next HF.out HXe.out HBb.out
              clear HF HBb HXe
              go_wp2_with fail
              refine (HC _).mono ?_
              rintro e w1 ⟨rfl, hb⟩
              replace HX : Hid (Bx W w1 W.heap.size m _) := HX.out.on hb
              replace HO : Hid (Sg.OL 3 1 W.heap.size w1 s' c' k ((Wq.un m c f k).flatMap mC1)) := HO.out.on hb
              clear hb HC l0 l1 l2 l3 l4 l5
              go_wp2_with fail
              go_roundw
              case rel => exact ⟨j + 1, by omega, rfl, rfl, HO, HX, HF2⟩
              case measure => simp only [intOf]; omega
            · rw [HE1.out j _ x HXe.out HF.out HBb.out] at HU
              clear HF HBb HXe HE1 HE2 HCh
              go_wp2_with fail
              refine (HC _).mono ?_
              rintro e w1 ⟨rfl, hb⟩
              replace HX : Hid (Bx W w1 W.heap.size m _) := HX.out.on hb
              replace HO : Hid (Sg.OL 3 1 W.heap.size w1 s' c' k ((Wq.un m c f k).flatMap mC1)) := HO.out.on hb
              clear hb HC l0 l1 l2 l3 l4 l5
              go_upto_region 9 with fail
              have HO5 : Hid (∀ ob, Sg.OL 3 1 W.heap.size (w1.alloc ob) s' c' k ((Wq.un m c f k).flatMap mC1)) := fun ob => HO.out.on ((Below.refl _ _).alloc (Nat.le_refl _) _)
              have HX5 : Hid (∀ ob, Bx W (w1.alloc ob) W.heap.size m _) := fun ob => HX.out.al _
              have HSn : Hid (Src Tryd.prog 1 23 (.slice (some ⟨w1.heap.size, 0, none⟩) 1 1) 1 [.int .i64 (j : Int)] (w1.alloc (.cells #[.int .i64 (j : Int)] 3))) := Sg.src_new Tryd.underlying23 w1 3 1 1 _ rfl (by intro u hu; simp only [List.mem_singleton] at hu; subst hu; rfl)
              clear HO HX
              go_wp2_with (refine Sg.wpList_appendO elN rfl (.tmp 31) (.tmp 33) 23 rfl rfl rfl (HO5.out _) (HX5.out _).below.size HSn.out (show k + 1 ≤ 1000000 by omega) ?_; intro s2 c2 n2 u2 hn2 h2 hk2; have HXu : Hid (Bx W u2 W.heap.size m _) := (HX5.out _).grown HM.out (HO5.out _) hk2; have hOu : Sg.OL 3 1 W.heap.size u2 s2 c2 n2 ((Wq.un m c f (k + 1)).flatMap mC1) := (by rw [HU.out, List.flatMap_append]; simpa [mC1] using h2); have HOu : Hid (Sg.OL 3 1 W.heap.size u2 s2 c2 n2 ((Wq.un m c f (k + 1)).flatMap mC1)) := hOu; clear hOu; subst hn2; clear h2 hk2 HO5 HX5 HSn HU)
              go_meet
              case rel => exact ⟨s2, c2, rfl, HOu, HXu⟩
          · have ji : ¬ ((j : Int) < (m.windows.length : Int)) := by omega
            rw [HE2.out _ (fun i y hy => HF.out i y (by have := (List.getElem?_eq_some_iff.1 hy).1; omega) hy)] at HU
            clear HF HE1 HE2 HCh
            go_upto_region 11 with fail
            have HO5 : Hid (∀ ob, Sg.OL 3 1 W.heap.size (wr.alloc ob) s' c' k ((Wq.un m c f k).flatMap mC1)) := fun ob => HO.out.on ((Below.refl _ _).alloc (Nat.le_refl _) _)
            have HX5 : Hid (∀ ob, Bx W (wr.alloc ob) W.heap.size m _) := fun ob => HX.out.al _
            have HSn : Hid (Src Tryd.prog 1 23 (.slice (some ⟨wr.heap.size, 0, none⟩) 1 1) 1 [.int .i64 (-1)] (wr.alloc (.cells #[.int .i64 (-1)] 3))) := Sg.src_new Tryd.underlying23 wr 3 1 1 _ rfl (by intro u hu; simp only [List.mem_singleton] at hu; subst hu; rfl)
            clear HO HX
            go_wp2_with (refine Sg.wpList_appendO elN rfl (.tmp 36) (.tmp 37) 23 rfl rfl rfl (HO5.out _) (HX5.out _).below.size HSn.out (show k + 1 ≤ 1000000 by omega) ?_; intro s2 c2 n2 u2 hn2 h2 hk2; have HXu : Hid (Bx W u2 W.heap.size m _) := (HX5.out _).grown HM.out (HO5.out _) hk2; have hOu : Sg.OL 3 1 W.heap.size u2 s2 c2 n2 ((Wq.un m c f (k + 1)).flatMap mC1) := (by rw [HU.out, List.flatMap_append]; simpa [mC1] using h2); have HOu : Hid (Sg.OL 3 1 W.heap.size u2 s2 c2 n2 ((Wq.un m c f (k + 1)).flatMap mC1)) := hOu; clear hOu; subst hn2; clear h2 hk2 HO5 HX5 HSn HU)
            go_meet
            case rel => exact ⟨s2, c2, rfl, HOu, HXu⟩
      case rest =>
        obtain ⟨s2, c2, rfl, HO2, HX2⟩ := hcut
        clear HO HX HU
        go_wp2_with fail
        go_roundw
        case rel => exact ⟨k + 1, s2, c2, by omega, by simp [Int.add_assoc], rfl, HO2, HX2⟩
        case measure => simp only [intOf]; omega
    · obtain rfl : k = n := by omega
      have kI : ¬ (f + (k : Int) < f + (k : Int)) := by omega
      clear HE1 HE2 HCh
      go_wp2
      go_ret
      exact ⟨s', c', rfl, HO.out, HX.out.below⟩

end Go.Proofs.YtmfehobpbpkcaaaDoor
