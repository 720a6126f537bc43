/- Package plan, over the landed code: later, Beat, Watch, a trigger of every cycle, Due. -/
import Derived.Test.YtnbfnipdiffphaaDoorYb
import Derived.Test.YtnbfnipdiffphaaDoorYf
import Derived.Test.YtnbfnipdiffphaaDoorSi
import Derived.Test.YtnbfnipdiffphaaDoorUq
import Derived.Test.YtnbfnipdiffphaaDoorHl
import Derived.Deep.CutBlock
import Derived.Test.YtnbfnipdiffphaaDoorSj
import Derived.Test.YtnbfnipdiffphaaDoorYc
import Derived.WalkMore
namespace Go.Proofs.YtnbfnipdiffphaaDoor
open Go.RowKit Go.WideShapes
set_option linter.unusedVariables false

set_option maxRecDepth 100000 in
set_option maxHeartbeats 4000000 in
theorem pk_later (w : World) (hT : Tab w) (m : Mx.M) (a : Ma) (k V : Int) (hm : MIn w m a) (hS : Mx.Small m) (hwf : Mx.Wf m) (k0 : 0 ≤ k) (k1 : k ≤ 2000) (hV : (if Mx.is m then m.length + k * Lq.step m else 0) = V) : Calls Tryd.prog 78 #[mV m a, .int .i64 k] w fun e w' => e = .returned (.int .i64 V) ∧ Below w.heap.size w w' := by
  have HX : Hid (Bx w (w.alloc (.cells (mCs m a) 27)) w.heap.size m a) := Bx.mk' hm
  obtain ⟨y0, y1, y2, y3, y4, y5, y6, y7, y8, y9, y10⟩ := HX.out.row.mat
  have HS : Hid (Mx.Small m) := hS
  have HW : Hid (Mx.Wf m) := hwf
  have HTb : Hid (∀ w', Below w.heap.size w w' → Tab w') := fun w' hb => hT.below hb
  have HV : Hid ((if Mx.is m then m.length + k * Lq.step m else 0) = V) := hV
  clear hV hwf hS hT
  go_enter Tryd.func78, Tryd.ntmps78
  go_wp2_with fail
  refine (mk_is _ (HTb.out _ HX.out.below) m a HX.out.mem HS.out).mono ?_
  rintro e w1 ⟨rfl, hb⟩
  replace HX : Hid (Bx w w1 w.heap.size m a) := HX.out.on hb
  clear y0 y1 y2 y3 y4 y5 y6 y7 y8 y9 y10 hb hm
  cases hi : Mx.is m
  · obtain rfl : V = 0 := by rw [← HV.out, hi, if_neg (by simp)]
    go_wp2
    go_ret
    exact ⟨rfl, HX.out.below⟩
  · have hsp := Yq.step_pos hi
    have hcy := Lq.cyc_of hi
    have HR : Hid (∀ w', Below w1.heap.size w1 w' → RowT 27 w' w.heap.size (mCs m a)) := fun w' hb => (HX.out.on hb).row
    have HC : Hid (∀ w', Below w1.heap.size w1 w' → Calls Tryd.prog 42 #[mV m a] w' fun e w'' => e = .returned (.int .i64 (Lq.step m)) ∧ Below w'.heap.size w' w'') := fun w' hb => ck_step w' (HTb.out _ (HX.out.below.trans (hb.mono HX.out.below.size))) m a (HX.out.on hb).mem HS.out HW.out
    have HB : Hid (Below w.heap.size w w1) := HX.out.below
    obtain ⟨_, _, ln1, ln2, _⟩ := hcy
    obtain ⟨P, hP⟩ : ∃ P, k * Lq.step m = P := ⟨_, rfl⟩
    obtain rfl : V = m.length + P := by rw [← HV.out, hi, if_pos rfl, hP]
    have p0 : 0 ≤ P := by rw [← hP]; exact Int.mul_nonneg (by omega) (by omega)
    have p1 : P ≤ 10000000 := by
      rw [← hP]
      have : k * Lq.step m ≤ 2000 * 5000 := Int.mul_le_mul (by omega) (by omega) (by omega) (by omega)
      omega
    generalize Lq.step m = ST at *
    obtain ⟨s1, s2⟩ := hsp
    clear HX hi HTb
    go_wp2_with fail
    refine Lw.wp_region_quiet_below (by kernel_rfl) (by kernel_rfl) ?_
    repeat (first
      | go_big_quiet_skip
      | (go_big_quiet_want; go_big_quiet_op; go_big_quiet_on)
      | (go_big_quiet_want; go_big_quiet_op; apply Exists.intro; refine ⟨fun _ hb' => ?_, ?_⟩; (first
        | exact Lw.val_rfl _
        | (go_at_call 42; exact Lw.calls_below hb' (HC.out _ hb'))
        | (simp [go_sem, (HR.out _ hb').mat.2.2.2.1]; rfl)
        | (simp [go_sem, (HR.out _ hb').mat.1, (HR.out _ hb').mat.2.1, (HR.out _ hb').mat.2.2.1, (HR.out _ hb').mat.2.2.2.1, (HR.out _ hb').mat.2.2.2.2.1, (HR.out _ hb').mat.2.2.2.2.2.1, (HR.out _ hb').mat.2.2.2.2.2.2.1, (HR.out _ hb').mat.2.2.2.2.2.2.2.1, (HR.out _ hb').mat.2.2.2.2.2.2.2.2.1, (HR.out _ hb').mat.2.2.2.2.2.2.2.2.2.1, (HR.out _ hb').mat.2.2.2.2.2.2.2.2.2.2]; rfl)); go_big_quiet_on))
    refine wpQuiet_nil ?_
    intro wz hbz
    have HBz : Hid (Below w.heap.size w wz) := HB.out.trans (hbz.mono HB.out.size)
    clear hbz
    go_wp2
    go_ret
    exact ⟨by first | rfl | simp [hP], HBz.out⟩

set_option maxRecDepth 100000 in
set_option maxHeartbeats 4000000 in
theorem pk_beat (w : World) (hT : Tab w) (m : Mx.M) (a : Ma) (r : Int) (hm : MIn w m a) (hS : Mx.Small m) (hwf : Mx.Wf m) (hr : (Lit.int .i64 r).wf = true) : Ob.Looks Tryd.prog 51 #[mV m a, .int .i64 r] w (.int .i64 (Yq.beat m r)) := by
  have HX : Hid (Bx w (w.alloc (.cells (mCs m a) 27)) w.heap.size m a) := Bx.mk' hm
  obtain ⟨y0, y1, y2, y3, y4, y5, y6, y7, y8, y9, y10⟩ := HX.out.row.mat
  have HTb : Hid (∀ w', Below w.heap.size w w' → Tab w') := fun w' hb => hT.below hb
  have HL : Hid (∀ w' (k V : Int), Bx w w' w.heap.size m a → 0 ≤ k → k ≤ 2000 → (if Mx.is m then m.length + k * Lq.step m else 0) = V → Calls Tryd.prog 78 #[mV m a, .int .i64 k] w' fun e w'' => e = .returned (.int .i64 V) ∧ Below w'.heap.size w' w'') := fun w' k V h k0 k1 hV => pk_later w' (HTb.out _ h.below) m a k V h.mem hS hwf k0 k1 hV
  obtain ⟨V, hV⟩ : ∃ V, Yq.beat m r = V := ⟨_, rfl⟩
  have HV : Hid (Yq.beat m r = V) := hV
  unfold Ob.Looks
  rw [hV]
  have hrb := bounds_i64 hr
  obtain ⟨rb1, rb2⟩ := hrb
  clear hV hwf hS hT hm hr
  by_cases r1 : r < 0
  · have hV0 : (if Mx.is m then m.length + 0 * Lq.step m else 0) = V := by rw [← HV.out]; unfold Yq.beat; rw [if_pos (Or.inl r1)]; simp
    go_enter Tryd.func51, Tryd.ntmps51
    go_wp2_with fail
    refine (HL.out _ 0 V HX.out (by decide) (by decide) hV0).mono ?_
    rintro e w1 ⟨rfl, hb⟩
    have HX1 := HX.out.on hb
    clear y0 y1 y2 y3 y4 y5 y6 y7 y8 y9 y10 hb HX hV0
    go_wp2
    go_ret
    exact ⟨rfl, HX1.below⟩
  · by_cases r2 : 99 < r
    · have hV0 : (if Mx.is m then m.length + 0 * Lq.step m else 0) = V := by rw [← HV.out]; unfold Yq.beat; rw [if_pos (Or.inr r2)]; simp
      go_enter Tryd.func51, Tryd.ntmps51
      go_wp2_with fail
      refine (HL.out _ 0 V HX.out (by decide) (by decide) hV0).mono ?_
      rintro e w1 ⟨rfl, hb⟩
      have HX1 := HX.out.on hb
      clear y0 y1 y2 y3 y4 y5 y6 y7 y8 y9 y10 hb HX hV0
      go_wp2
      go_ret
      exact ⟨rfl, HX1.below⟩
    · have hV0 : (if Mx.is m then m.length + (r + 1) * Lq.step m else 0) = V := by rw [← HV.out]; unfold Yq.beat; rw [if_neg (show ¬ (r < 0 ∨ 99 < r) by omega)]
      go_enter Tryd.func51, Tryd.ntmps51
      go_wp2_with fail
      refine (HL.out _ (r + 1) V HX.out (by omega) (by omega) hV0).mono ?_
      rintro e w1 ⟨rfl, hb⟩
      have HX1 := HX.out.on hb
      clear y0 y1 y2 y3 y4 y5 y6 y7 y8 y9 y10 hb HX hV0
      go_wp2
      go_ret
      exact ⟨rfl, HX1.below⟩

set_option maxRecDepth 100000 in
set_option maxHeartbeats 4000000 in
theorem pk_watch (w : World) (hT : Tab w) (m : Mx.M) (a : Ma) (hm : MIn w m a) (hS : Mx.Small m) (hwf : Mx.Wf m) : Ob.Looks Tryd.prog 52 #[mV m a] w (.int .i64 (Yq.watch m)) := by
  have HX : Hid (Bx w (w.alloc (.cells (mCs m a) 27)) w.heap.size m a) := Bx.mk' hm
  obtain ⟨y0, y1, y2, y3, y4, y5, y6, y7, y8, y9, y10⟩ := HX.out.row.mat
  have ml : m.masters.length ≤ 1000 := hS.a
  have HTb : Hid (∀ w', Below w.heap.size w w' → Tab w') := fun w' hb => hT.below hb
  have HL : Hid (∀ w' (k V : Int), Bx w w' w.heap.size m a → 0 ≤ k → k ≤ 2000 → (if Mx.is m then m.length + k * Lq.step m else 0) = V → Calls Tryd.prog 78 #[mV m a, .int .i64 k] w' fun e w'' => e = .returned (.int .i64 V) ∧ Below w'.heap.size w' w'') := fun w' k V h k0 k1 hV => pk_later w' (HTb.out _ h.below) m a k V h.mem hS hwf k0 k1 hV
  obtain ⟨V, hV⟩ : ∃ V, Yq.watch m = V := ⟨_, rfl⟩
  have HV : Hid ((if Mx.is m then m.length + ((m.masters.length : Int) + 2) * Lq.step m else 0) = V) := hV
  unfold Ob.Looks
  rw [hV]
  clear hV hwf hS hT hm
  go_enter Tryd.func52, Tryd.ntmps52
  go_wp2_with fail
  refine (HL.out _ ((m.masters.length : Int) + 2) V HX.out (by omega) (by omega) HV.out).mono ?_
  rintro e w1 ⟨rfl, hb⟩
  have HX1 := HX.out.on hb
  clear y0 y1 y2 y3 y4 y5 y6 y7 y8 y9 y10 hb HX HV
  go_wp2
  go_ret
  exact ⟨rfl, HX1.below⟩

set_option maxRecDepth 100000 in
set_option maxHeartbeats 4000000 in
theorem pk_every (w : World) (k at_ ms : Int) : Calls Tryd.prog 50 #[.int .i64 k, .int .i64 at_, .int .i64 ms] w fun e w' => e = .returned (.agg #[.int .i64 k, .int .i64 at_, .int .i64 0, .int .i64 1, .int .i64 ms, .int .i64 0]) ∧ Below w.heap.size w w' := by
  go_enter Tryd.func50, Tryd.ntmps50
  go_wp2
  exact bodyPost_ret (v := .agg #[.int .i64 k, .int .i64 at_, .int .i64 0, .int .i64 1, .int .i64 ms, .int .i64 0]) (by simp [results, Tryd.results50, go_sem]) rfl ⟨rfl, by first | exact (Below.refl _ _).alloc (Nat.le_refl _) _ | exact ((Below.refl _ _).alloc (Nat.le_refl _) _).alloc (by simp) _⟩

set_option maxRecDepth 100000 in
set_option maxHeartbeats 4000000 in
theorem pk_dueN (w : World) (l : List Yq.Tr) (s : Option Addr) (c : Nat) (cy lo hi : Int) (h : LI w s c l.length (l.flatMap tC)) (hl : l.length ≤ 1000) (hwf : ∀ t ∈ l, Yq.Wf t) (hcy : (Lit.int .i64 cy).wf = true) : TellsN Tryd.prog 27 #[.slice s l.length c, .int .i64 cy, .int .i64 lo, .int .i64 hi] w (Yq.due l cy lo hi) := by
  have HG : Hid (∀ i, i < l.length → ∃ t, l[i]? = some t) := fun i hi => ⟨_, List.getElem?_eq_getElem hi⟩
  have HEl : Hid (∀ i t, l[i]? = some t → ∃ g o, s = some ⟨g, o, none⟩ ∧ ∀ w', Below w.heap.size w w' → w'.cell? ⟨g, o + i * 6, none⟩ = some (.int .i64 t.kind) ∧ w'.cell? ⟨g, o + i * 6 + 1, none⟩ = some (.int .i64 t.at_) ∧ w'.cell? ⟨g, o + i * 6 + 2, none⟩ = some (.int .i64 t.cycle) ∧ w'.cell? ⟨g, o + i * 6 + 3, none⟩ = some (.int .i64 t.rep) ∧ w'.cell? ⟨g, o + i * 6 + 4, none⟩ = some (.int .i64 t.msg) ∧ w'.cell? ⟨g, o + i * 6 + 5, none⟩ = some (.int .i64 t.til)) := fun i t ht => h.trig ht
  have HWf : Hid (∀ i t, l[i]? = some t → Yq.Wf t) := fun i t ht => hwf t (List.mem_of_getElem? ht)
  have HLe : Hid (∀ k, (Yq.due (l.take k) cy lo hi).length ≤ 1000) := fun k => by
    have h1 := due_le (l.take k) cy lo hi
    have h3 : (l.take k).length ≤ l.length := by rw [List.length_take]; omega
    omega
  have HEnd : Hid (Yq.due (l.take l.length) cy lo hi = Yq.due l cy lo hi) := by show _ = _; rw [List.take_length]
  unfold TellsN
  clear h hwf
  generalize l.length = n at HG HEnd hl ⊢
  go_enter Tryd.func27, Tryd.ntmps27
  go_wp2_with fail
  go_loopw [9, 14] (fun vo vi wr => ∃ (k : Nat) (s' : Option Addr) (c' n' : Nat) (d : List Yq.Tr), k ≤ n ∧ vi = .int .i64 (k : Int) ∧ vo = .slice s' n' c' ∧ n' = d.length ∧ Hid (d = Yq.due (l.take k) cy lo hi) ∧ Hid (Sg.OL 36 6 w.heap.size wr s' c' n' (d.flatMap tC)) ∧ Hid (Below w.heap.size w wr)) (fun _ vi _ => n - (intOf vi).toNat)
  case atStart => exact ⟨0, none, 0, 0, [], Nat.zero_le _, rfl, rfl, rfl, rfl, Sg.OL.nil _ _ _ _, Below.refl _ _⟩
  case round =>
    obtain ⟨k, s', c', n', d, hk, rfl, rfl, hn', HD, HO, HB⟩ := hrel
    by_cases hlt : k < n
    · obtain ⟨t, ht⟩ := HG.out k hlt
      obtain ⟨g, o, rfl, hc⟩ := HEl.out k t ht
      have HL : Hid (l[k]? = some t) := ht
      have hT := HWf.out k t ht
      have HCo : Hid (∀ w', Calls Tryd.prog 36 #[.int .i64 t.cycle, .int .i64 t.rep, .int .i64 cy] w' fun e w'' => e = .returned (.bool (Mx.comes t.cycle t.rep cy)) ∧ w'' = w') := fun w' => mk_comes w' t.cycle t.rep cy hT.cycle hcy
      obtain ⟨e0, e1, e2, e3, e4, e5⟩ := hc wr HB.out
      have kI : (k : Int) < (n : Int) := by omega
      have hdl : d.length ≤ 1000 := by rw [HD.out]; exact HLe.out k
      have hb1 : Below wr.heap.size wr (wr.alloc (.cells #[.int .i64 t.kind, .int .i64 t.at_, .int .i64 t.cycle, .int .i64 t.rep, .int .i64 t.msg, .int .i64 t.til] 36)) := (Below.refl _ _).alloc (Nat.le_refl _) _
      have HV : Hid (RowT 36 (wr.alloc (.cells #[.int .i64 t.kind, .int .i64 t.at_, .int .i64 t.cycle, .int .i64 t.rep, .int .i64 t.msg, .int .i64 t.til] 36)) wr.heap.size #[.int .i64 t.kind, .int .i64 t.at_, .int .i64 t.cycle, .int .i64 t.rep, .int .i64 t.msg, .int .i64 t.til]) := RowT.new _ wr _
      have HBv : Hid (Below w.heap.size w (wr.alloc (.cells #[.int .i64 t.kind, .int .i64 t.at_, .int .i64 t.cycle, .int .i64 t.rep, .int .i64 t.msg, .int .i64 t.til] 36))) := HB.out.trans (hb1.mono HB.out.size)
      have HOv : Hid (Sg.OL 36 6 w.heap.size (wr.alloc (.cells #[.int .i64 t.kind, .int .i64 t.at_, .int .i64 t.cycle, .int .i64 t.rep, .int .i64 t.msg, .int .i64 t.til] 36)) s' c' n' (d.flatMap tC)) := HO.out.on hb1
      clear hb1 HO HB
      clear hc ht hT HEl HG HWf HLe HEnd
      go_upto_region 5 with fail
      clear e0 e1 e2 e3 e4 e5
      generalize wr.alloc (.cells #[.int .i64 t.kind, .int .i64 t.at_, .int .i64 t.cycle, .int .i64 t.rep, .int .i64 t.msg, .int .i64 t.til] 36) = v at HV HBv HOv ⊢
      generalize wr.heap.size = q at HV ⊢
      by_cases a1 : lo < t.at_
      · have a1d : decide (lo < t.at_) = true := decide_eq_true a1
        by_cases a2 : t.at_ ≤ hi
        · have a2d : decide (t.at_ ≤ hi) = true := decide_eq_true a2
          cases a3 : Mx.comes t.cycle t.rep cy
          · rw [a3] at HCo
            have hdue : Yq.isDue cy lo hi t = false := by unfold Yq.isDue; rw [a3]; simp
            clear a1 a2
            subst hn'
            have HD2 : Hid (d = Yq.due (l.take (k + 1)) cy lo hi) := due_no HL.out HD.out hdue
            have x1 := HV.out.c 1 _ rfl
            have x2 := HV.out.c 2 _ rfl
            have x3 := HV.out.c 3 _ rfl
            clear HV HD HL hdue
            go_wp2_with fail
            refine (HCo.out _).mono ?_
            rintro e w9 ⟨rfl, rfl⟩
            go_wp2_with fail
            go_roundw
            case rel => exact ⟨k + 1, s', c', _, d, by omega, rfl, rfl, rfl, HD2, HOv, HBv⟩
            case measure => simp only [intOf]; omega
          · rw [a3] at HCo
            have hdue : Yq.isDue cy lo hi t = true := by unfold Yq.isDue; rw [a1d, a2d, a3]; rfl
            clear a1 a2
            subst hn'
            have HO5 : Hid (∀ ob, Sg.OL 36 6 w.heap.size (v.alloc ob) s' c' d.length (d.flatMap tC)) := fun ob => HOv.out.on ((Below.refl _ _).alloc (Nat.le_refl _) _)
            have HBa : Hid (∀ ob, Below w.heap.size w (v.alloc ob)) := fun ob => HBv.out.alloc HBv.out.size _
            have q0 := HV.out.c 0 _ rfl
            have q1 := HV.out.c 1 _ rfl
            have q2 := HV.out.c 2 _ rfl
            have q3 := HV.out.c 3 _ rfl
            have q4 := HV.out.c 4 _ rfl
            have q5 := HV.out.c 5 _ rfl
            have HSn : Hid (Src Tryd.prog 6 33 (.slice (some ⟨v.heap.size, 0, none⟩) 1 1) 1 (tC t) (v.alloc (.cells #[.int .i64 t.kind, .int .i64 t.at_, .int .i64 t.cycle, .int .i64 t.rep, .int .i64 t.msg, .int .i64 t.til] 36))) := Sg.src_new Tryd.underlying33 v 36 6 1 _ rfl (tC_one t)
            have HD2 : Hid (d ++ [t] = Yq.due (l.take (k + 1)) cy lo hi) := due_yes HL.out HD.out hdue
            clear HV HD HOv HBv HL hdue
            go_wp2_with fail
            refine (HCo.out _).mono ?_
            rintro e w9 ⟨rfl, rfl⟩
            clear HCo
            go_wp2_with (refine Sg.wpList_appendO elT rfl (.tmp 36) (.tmp 38) 33 rfl rfl rfl (HO5.out _) (HBa.out _).size HSn.out (show d.length + 1 ≤ 1000000 by omega) ?_; intro s2 c2 n2 u2 hn2 h2 hk2; have HBu : Hid (Below w.heap.size w u2) := (HBa.out _).trans ((HO5.out _).below hk2 (HBa.out _).size); have hOu : Sg.OL 36 6 w.heap.size u2 s2 c2 n2 ((d ++ [t]).flatMap tC) := (by rw [List.flatMap_append]; simpa using h2); have HOu : Hid (Sg.OL 36 6 w.heap.size u2 s2 c2 n2 ((d ++ [t]).flatMap tC)) := hOu; clear hOu; subst hn2; clear h2 hk2 HO5 HBa HSn)
            go_roundw
            case rel => exact ⟨k + 1, s2, c2, _, d ++ [t], by omega, rfl, rfl, by rw [List.length_append, List.length_singleton], HD2, HOu, HBu⟩
            case measure => simp only [intOf]; omega
        · have a2d : decide (t.at_ ≤ hi) = false := decide_eq_false a2
          have hdue : Yq.isDue cy lo hi t = false := by unfold Yq.isDue; rw [a2d]; simp
          clear a1 a2
          subst hn'
          have HD2 : Hid (d = Yq.due (l.take (k + 1)) cy lo hi) := due_no HL.out HD.out hdue
          have x1 := HV.out.c 1 _ rfl
          have x2 := HV.out.c 2 _ rfl
          have x3 := HV.out.c 3 _ rfl
          clear HV HD HL hdue
          go_wp2_with fail
          go_roundw
          case rel => exact ⟨k + 1, s', c', _, d, by omega, rfl, rfl, rfl, HD2, HOv, HBv⟩
          case measure => simp only [intOf]; omega
      · have a1d : decide (lo < t.at_) = false := decide_eq_false a1
        have hdue : Yq.isDue cy lo hi t = false := by unfold Yq.isDue; rw [a1d]; simp
        clear a1
        subst hn'
        have HD2 : Hid (d = Yq.due (l.take (k + 1)) cy lo hi) := due_no HL.out HD.out hdue
        have x1 := HV.out.c 1 _ rfl
        have x2 := HV.out.c 2 _ rfl
        have x3 := HV.out.c 3 _ rfl
        clear HV HD HL hdue
        go_wp2_with fail
        go_roundw
        case rel => exact ⟨k + 1, s', c', _, d, by omega, rfl, rfl, rfl, HD2, HOv, HBv⟩
        case measure => simp only [intOf]; omega
    · obtain rfl : k = n := by omega
      have HD2 := HD.out
      rw [HEnd.out] at HD2
      clear HEl HG HWf HLe HEnd HD
      go_wp2
      go_ret
      exact ⟨s', c', n', by rw [← HD2]; exact hn', rfl, by rw [← HD2]; exact HO.out, HB.out⟩

theorem pk_due (w : World) (l : List Yq.Tr) (s : Option Addr) (c : Nat) (cy lo hi : Int) (h : LI w s c l.length (l.flatMap tC)) (hl : l.length ≤ 1000) (hwf : ∀ t ∈ l, Yq.Wf t) (hcy : (Lit.int .i64 cy).wf = true) : Tells Tryd.prog 27 #[.slice s l.length c, .int .i64 cy, .int .i64 lo, .int .i64 hi] w (Yq.due l cy lo hi) := (pk_dueN w l s c cy lo hi h hl hwf hcy).tells
end Go.Proofs.YtnbfnipdiffphaaDoor
/- Package plan, over the landed code: what a node does in a window. -/
namespace Go.Proofs.YtnbfnipdiffphaaDoor
open Go.RowKit Go.WideShapes
set_option linter.unusedVariables false
def oV (o : Option Yq.Tr) : Value := match o with
  | some t => .tuple #[.agg (tC t).toArray, .bool true]
  | none => .tuple #[.agg #[.int .i64 0, .int .i64 0, .int .i64 0, .int .i64 0, .int .i64 0, .int .i64 0], .bool false]
theorem tinfoW : (Tryd.prog.info? 36).map (·.size) = some 6 := by kernel_rfl
theorem tCa_one (t : Yq.Tr) : (tC t).toArray.all (·.oneCell') = true := by simp [tC, Value.oneCell']
/-- While a window is looked at: the matrix, the window's copy, the trigger, the result's block. -/
structure Yv (W v : World) (m : Mx.M) (a : Ma) (gw gt gr : Nat) (xs ts : Array Value) : Prop where
  orig : MIn W m a
  bel : Below W.heap.size W v
  row : RowT 27 v W.heap.size (mCs m a)
  rw_ : RowT 58 v gw xs
  rt : RowT 36 v gt ts
  rr : RowT 36 v gr #[.int .i64 0, .int .i64 0, .int .i64 0, .int .i64 0, .int .i64 0, .int .i64 0]
  ne : gr ≠ gt
  bt : W.heap.size ≤ gt
  br : W.heap.size ≤ gr
section
variable {W v v' : World} {m : Mx.M} {a : Ma} {gw gt gr : Nat} {xs ts : Array Value}
theorem Yv.on (h : Yv W v m a gw gt gr xs ts) (hb : Below v.heap.size v v') : Yv W v' m a gw gt gr xs ts := ⟨h.orig, h.bel.trans (hb.mono h.bel.size), h.row.on hb, h.rw_.on hb, h.rt.on hb, h.rr.on hb, h.ne, h.bt, h.br⟩
theorem Yv.bx (h : Yv W v m a gw gt gr xs ts) : Bx W v W.heap.size m a := ⟨h.row, h.orig.on h.bel, h.bel⟩
theorem Yv.ap {w : World} {g g' : Nat} {c c' : Array Value} {t t' : TypeId} (h : RowT t w g c) (h' : RowT t' w g' c') (ht : t ≠ t') : g ≠ g' := fun e => by
  subst e
  have h1 : _ = some _ := h
  have h2 : _ = some _ := h'
  rw [h1] at h2
  injection h2 with h2
  injection h2 with _ e
  exact ht e
theorem Yv.set (h : Yv W v m a gw gt gr xs ts) (k : Nat) (x : Value) : Yv W (v.setCell ⟨gt, k, none⟩ x) m a gw gt gr xs (ts.setIfInBounds k x) := by
  have hk : Kept (fun j => j = gt) v (v.setCell ⟨gt, k, none⟩ x) := Kept.set _ _ _ rfl
  exact ⟨h.orig, h.bel.setCell h.bt _, h.row.kept hk (Yv.ap h.row h.rt (by decide)), h.rw_.kept hk (Yv.ap h.rw_ h.rt (by decide)), h.rt.set k x, h.rr.kept hk h.ne, h.ne, h.bt, h.br⟩
theorem Yv.new {w : World} (hx : Bx W w W.heap.size m a) (ho : MIn W m a) (xs ts : Array Value) : Yv W (((w.alloc (.cells xs 58)).alloc (.cells #[.int .i64 0, .int .i64 0, .int .i64 0, .int .i64 0, .int .i64 0, .int .i64 0] 36)).alloc (.cells ts 36)) m a w.heap.size (w.heap.size + 1 + 1) (w.heap.size + 1) xs ts := by
  have s1 : (w.alloc (.cells xs 58)).heap.size = w.heap.size + 1 := by simp
  have s2 : ((w.alloc (.cells xs 58)).alloc (.cells #[.int .i64 0, .int .i64 0, .int .i64 0, .int .i64 0, .int .i64 0, .int .i64 0] 36)).heap.size = w.heap.size + 1 + 1 := by simp
  have b1 : Below w.heap.size w (w.alloc (.cells xs 58)) := (Below.refl _ _).alloc (Nat.le_refl _) _
  have b2 : Below (w.alloc (.cells xs 58)).heap.size (w.alloc (.cells xs 58)) ((w.alloc (.cells xs 58)).alloc (.cells #[.int .i64 0, .int .i64 0, .int .i64 0, .int .i64 0, .int .i64 0, .int .i64 0] 36)) := (Below.refl _ _).alloc (Nat.le_refl _) _
  have b3 : Below ((w.alloc (.cells xs 58)).alloc (.cells #[.int .i64 0, .int .i64 0, .int .i64 0, .int .i64 0, .int .i64 0, .int .i64 0] 36)).heap.size ((w.alloc (.cells xs 58)).alloc (.cells #[.int .i64 0, .int .i64 0, .int .i64 0, .int .i64 0, .int .i64 0, .int .i64 0] 36)) (((w.alloc (.cells xs 58)).alloc (.cells #[.int .i64 0, .int .i64 0, .int .i64 0, .int .i64 0, .int .i64 0, .int .i64 0] 36)).alloc (.cells ts 36)) := (Below.refl _ _).alloc (Nat.le_refl _) _
  have rr := RowT.new 36 (w.alloc (.cells xs 58)) #[.int .i64 0, .int .i64 0, .int .i64 0, .int .i64 0, .int .i64 0, .int .i64 0]
  rw [s1] at rr
  have rt := RowT.new 36 ((w.alloc (.cells xs 58)).alloc (.cells #[.int .i64 0, .int .i64 0, .int .i64 0, .int .i64 0, .int .i64 0, .int .i64 0] 36)) ts
  rw [s2] at rt
  have hx2 := ((hx.on b1).on b2).on b3
  have hsz := hx.below.size
  exact ⟨ho, hx2.below, hx2.row, ((RowT.new _ w xs).on b2).on b3, rt, rr.on b3, by omega, by omega, by omega⟩
theorem Yv.fin (h : Yv W v m a gw gt gr xs ts) (cs : Array Value) : RowT 36 (v.setRow gr cs) gr cs ∧ Below W.heap.size W (v.setRow gr cs) :=
  ⟨setRow_heap v _ _ _ _ _ h.rr, below_setRow h.bel h.br _⟩
end
set_option maxRecDepth 100000 in
set_option maxHeartbeats 8000000 in
theorem pk_window (W : World) (hT : Tab W) (m : Mx.M) (a : Ma) (x : Mx.Win) (who : Int) (hm : MIn W m a) (hP : Lq.Passes m) (k : Nat) (hx : m.windows[k]? = some x) : Calls Tryd.prog 48 #[mV m a, .agg (mC3 x).toArray, .int .i64 who] W fun e w' => e = .returned (oV (Yq.trig m who x)) ∧ Below W.heap.size W w' := by
  have HX0 : Hid (Bx W (W.alloc (.cells (mCs m a) 27)) W.heap.size m a) := Bx.mk' hm
  have HOr : Hid (MIn W m a) := hm
  have HPs : Hid (Lq.Passes m) := hP
  have hw := Lq.wx_of hP hx
  obtain ⟨kd, st, fn, cy, rp, ms⟩ := x
  obtain ⟨⟨k1, k2⟩, ⟨s1, s2, s3⟩, _, _, ⟨m1, m2⟩, hst, hst2, hms, _⟩ := hw
  dsimp only at k1 k2 s1 s2 s3 m1 m2 hst hst2 hms
  have hcy := Lq.cyc_of hP.is
  obtain ⟨_, _, ln1, ln2, _, en1, en2, _⟩ := hcy
  have hsp := Yq.step_pos hP.is
  have HStp0 : Hid (∀ v, Bx W v W.heap.size m a → Calls Tryd.prog 42 #[mV m a] v fun e w' => e = .returned (.int .i64 (Lq.step m)) ∧ Below v.heap.size v w') := fun v h => ck_step v (hT.below h.below) m a h.mem (Mx.small_is hP.is) (Mx.wf_is hP.is)
  have HYw : Hid (Yv W ((((W.alloc (.cells (mCs m a) 27)).alloc (.cells #[.int .i64 kd, .int .i64 st, .int .i64 fn, .int .i64 cy, .int .i64 rp, .int .i64 ms] 58)).alloc (.cells #[.int .i64 0, .int .i64 0, .int .i64 0, .int .i64 0, .int .i64 0, .int .i64 0] 36)).alloc (.cells #[.int .i64 0, .int .i64 0, .int .i64 cy, .int .i64 rp, .int .i64 ms, .int .i64 0] 36)) m a (W.heap.size + 1) (W.heap.size + 1 + 1 + 1) (W.heap.size + 1 + 1) #[.int .i64 kd, .int .i64 st, .int .i64 fn, .int .i64 cy, .int .i64 rp, .int .i64 ms] #[.int .i64 0, .int .i64 0, .int .i64 cy, .int .i64 rp, .int .i64 ms, .int .i64 0]) := by
    have := Yv.new HX0.out hm #[.int .i64 kd, .int .i64 st, .int .i64 fn, .int .i64 cy, .int .i64 rp, .int .i64 ms] #[.int .i64 0, .int .i64 0, .int .i64 cy, .int .i64 rp, .int .i64 ms, .int .i64 0]
    rwa [show (W.alloc (.cells (mCs m a) 27)).heap.size = W.heap.size + 1 by simp] at this
  clear hm hP hx HX0 hT
  obtain ⟨R, hR⟩ : ∃ R, oV (Yq.trig m who ⟨kd, st, fn, cy, rp, ms⟩) = R := ⟨_, rfl⟩
  rw [hR]
  have HR : Hid (oV (Yq.trig m who ⟨kd, st, fn, cy, rp, ms⟩) = R) := hR
  clear hR
  show Calls _ _ #[.agg (mCs m a), .agg #[.int .i64 kd, .int .i64 st, .int .i64 fn, .int .i64 cy, .int .i64 rp, .int .i64 ms], .int .i64 who] _ _
  generalize hcs : mCs m a = cs at HYw
  go_enter Tryd.func48, Tryd.ntmps48
  go_upto_block 0 with fail
  generalize (((W.alloc (.cells cs 27)).alloc (.cells #[.int .i64 kd, .int .i64 st, .int .i64 fn, .int .i64 cy, .int .i64 rp, .int .i64 ms] 58)).alloc (.cells #[.int .i64 0, .int .i64 0, .int .i64 0, .int .i64 0, .int .i64 0, .int .i64 0] 36)).alloc (.cells #[.int .i64 0, .int .i64 0, .int .i64 cy, .int .i64 rp, .int .i64 ms, .int .i64 0] 36) = v0 at HYw ⊢
  generalize W.heap.size + 1 + 1 + 1 = gt at HYw ⊢
  generalize W.heap.size + 1 + 1 = gr at HYw ⊢
  generalize W.heap.size + 1 = gw at HYw ⊢
  clear hcs
  by_cases e1 : kd = 1
  · subst e1
    obtain ⟨j, y, rfl, hy, _⟩ := hms rfl
    obtain ⟨g2, o2, hs2, _, _, p1, _⟩ := HYw.out.bx.mem.message hy
    have jl : j < m.messages.length := (List.getElem?_eq_some_iff.1 hy).1
    have ji : (j : Int) < (m.messages.length : Int) := by omega
    have jb : (j : Int) < 1000 := by omega
    have HTr0 : Hid (Yq.trig m who ⟨1, st, fn, cy, rp, (j : Int)⟩ = if y.owner = who then some ⟨1, st, cy, rp, (j : Int), st + m.enable⟩ else some ⟨3, fn - 1, cy, rp, (j : Int), 0⟩) := by
      show _ = _
      unfold Yq.trig
      simp only [Int.toNat_natCast, hy, if_true]
    obtain ⟨y0, y1, y2, y3, y4, y5, y6, y7, y8, y9, y10⟩ := HYw.out.bx.row.mat
    have x0 : v0.cell? ⟨gw, 0, none⟩ = some (.int .i64 1) := HYw.out.rw_.c 0 _ rfl
    have x1 : v0.cell? ⟨gw, 1, none⟩ = some (.int .i64 st) := HYw.out.rw_.c 1 _ rfl
    have x2 : v0.cell? ⟨gw, 2, none⟩ = some (.int .i64 fn) := HYw.out.rw_.c 2 _ rfl
    have x3 : v0.cell? ⟨gw, 3, none⟩ = some (.int .i64 cy) := HYw.out.rw_.c 3 _ rfl
    have x4 : v0.cell? ⟨gw, 4, none⟩ = some (.int .i64 rp) := HYw.out.rw_.c 4 _ rfl
    have x5 : v0.cell? ⟨gw, 5, none⟩ = some (.int .i64 (j : Int)) := HYw.out.rw_.c 5 _ rfl
    by_cases e2 : y.owner = who
    · have eo : (y.owner == who) = true := beq_iff_eq.2 e2
      have eA : IntKind.i64.wrap (st + m.enable) = st + m.enable := by rw [IntKind.wrap_i64]; omega
      have HTr : Hid (Yq.trig m who ⟨1, st, fn, cy, rp, (j : Int)⟩ = some ⟨1, st, cy, rp, (j : Int), st + m.enable⟩) := by show _ = _; rw [HTr0.out, if_pos e2]
      clear HTr0 hms hy e2 HStp0
      go_upto_region 4 with fail
      have Hv1 : Hid (Yv W v0.drew m a gw gt gr #[.int .i64 1, .int .i64 st, .int .i64 fn, .int .i64 cy, .int .i64 rp, .int .i64 (j : Int)] #[.int .i64 0, .int .i64 0, .int .i64 cy, .int .i64 rp, .int .i64 (j : Int), .int .i64 0]) := HYw.out.on (Below.refl _ _).drew
      clear HYw x0 x1 x2 x3 x4 x5 y0 y1 y2 y3 y4 y5 y6 y7 y8 y9 y10 p1
      refine wp_region_held_drew (S := fun w' => RowT 58 w' gw #[.int .i64 1, .int .i64 st, .int .i64 fn, .int .i64 cy, .int .i64 rp, .int .i64 (j : Int)] ∧ RowT 27 w' W.heap.size (mCs m a)) (by kernel_rfl) ⟨Hv1.out.rw_, Hv1.out.row⟩ (fun hHeld => ?_)
      refine Hl.takeL (i := 0) (d := 32) (v := ?_) rfl (by kernel_rfl) (by kernel_rfl) (by kernel_rfl) (fun _ _ _ h => h) (by rfl) ?_ (by assumption) ?_
      rotate_left
      · intro w hSw; have q1 := hSw.1.c 1 _ rfl; have q2 := hSw.1.c 2 _ rfl; obtain ⟨y0, y1, y2, y3, y4, y5, y6, y7, y8, y9, y10⟩ := hSw.2.mat; go_simp; (try with_reducible rfl)
      simp only [Act.put, List.setIfInBounds_toArray, List.set_cons_zero, List.set_cons_succ]
      refine Hl.takeL (i := 1) (d := 33) (v := ?_) rfl (by kernel_rfl) (by kernel_rfl) (by kernel_rfl) (fun _ _ _ h => h) (by rfl) ?_ (by assumption) ?_
      rotate_left
      · intro w hSw; have q1 := hSw.1.c 1 _ rfl; have q2 := hSw.1.c 2 _ rfl; obtain ⟨y0, y1, y2, y3, y4, y5, y6, y7, y8, y9, y10⟩ := hSw.2.mat; go_simp; (try with_reducible rfl)
      simp only [Act.put, List.setIfInBounds_toArray, List.set_cons_zero, List.set_cons_succ]
      refine Hl.takeL (i := 2) (d := 34) (v := ?_) rfl (by kernel_rfl) (by kernel_rfl) (by kernel_rfl) (fun _ _ _ h => h) (by rfl) ?_ (by assumption) ?_
      rotate_left
      · intro w hSw; have q1 := hSw.1.c 1 _ rfl; have q2 := hSw.1.c 2 _ rfl; obtain ⟨y0, y1, y2, y3, y4, y5, y6, y7, y8, y9, y10⟩ := hSw.2.mat; go_simp; (try with_reducible rfl)
      simp only [Act.put, List.setIfInBounds_toArray, List.set_cons_zero, List.set_cons_succ]
      refine Hl.takeL (i := 3) (d := 35) (v := ?_) rfl (by kernel_rfl) (by kernel_rfl) (by kernel_rfl) (fun _ _ _ h => h) (by rfl) ?_ (by assumption) ?_
      rotate_left
      · intro w hSw; have q1 := hSw.1.c 1 _ rfl; have q2 := hSw.1.c 2 _ rfl; obtain ⟨y0, y1, y2, y3, y4, y5, y6, y7, y8, y9, y10⟩ := hSw.2.mat; go_simp; (try with_reducible rfl)
      simp only [Act.put, List.setIfInBounds_toArray, List.set_cons_zero, List.set_cons_succ]
      refine Hl.takeL (i := 4) (d := 36) (v := ?_) rfl (by kernel_rfl) (by kernel_rfl) (by kernel_rfl) (fun _ _ _ h => h) (by rfl) ?_ (by assumption) ?_
      rotate_left
      · intro w hSw; have q1 := hSw.1.c 1 _ rfl; have q2 := hSw.1.c 2 _ rfl; obtain ⟨y0, y1, y2, y3, y4, y5, y6, y7, y8, y9, y10⟩ := hSw.2.mat; go_simp; (try with_reducible rfl)
      simp only [Act.put, List.setIfInBounds_toArray, List.set_cons_zero, List.set_cons_succ]
      refine Hl.takeL (i := 5) (d := 37) (v := ?_) rfl (by kernel_rfl) (by kernel_rfl) (by kernel_rfl) (fun _ _ _ h => h) (by rfl) ?_ (by assumption) ?_
      rotate_left
      · intro w hSw; have q1 := hSw.1.c 1 _ rfl; have q2 := hSw.1.c 2 _ rfl; obtain ⟨y0, y1, y2, y3, y4, y5, y6, y7, y8, y9, y10⟩ := hSw.2.mat; go_simp; (try with_reducible rfl)
      simp only [Act.put, List.setIfInBounds_toArray, List.set_cons_zero, List.set_cons_succ]
      refine Hl.takeL (i := 6) (d := 38) (v := ?_) rfl (by kernel_rfl) (by kernel_rfl) (by kernel_rfl) (fun _ _ _ h => h) (by rfl) ?_ (by assumption) ?_
      rotate_left
      · intro w hSw; have q1 := hSw.1.c 1 _ rfl; have q2 := hSw.1.c 2 _ rfl; obtain ⟨y0, y1, y2, y3, y4, y5, y6, y7, y8, y9, y10⟩ := hSw.2.mat; go_simp; (try with_reducible rfl)
      simp only [Act.put, List.setIfInBounds_toArray, List.set_cons_zero, List.set_cons_succ]
      refine Hl.takeL (i := 7) (d := 39) (v := ?_) rfl (by kernel_rfl) (by kernel_rfl) (by kernel_rfl) (fun _ _ _ h => h) (by rfl) ?_ (by assumption) ?_
      rotate_left
      · intro w hSw; have q1 := hSw.1.c 1 _ rfl; have q2 := hSw.1.c 2 _ rfl; obtain ⟨y0, y1, y2, y3, y4, y5, y6, y7, y8, y9, y10⟩ := hSw.2.mat; go_simp; (try with_reducible rfl)
      simp only [Act.put, List.setIfInBounds_toArray, List.set_cons_zero, List.set_cons_succ]
      generalize v0.drew = v1 at Hv1 hHeld ⊢
      refine Hl.consL (i := 8) rfl (by kernel_rfl) (fun K' hK' => ?_)
      have hf := Hv1.out.rt.f 0
      have hcl : v1.cell? ⟨gt, 0, none⟩ = some (.int .i64 0) := Hv1.out.rt.c 0 _ rfl
      have Hv2 : Hid (Yv W (v1.setCell ⟨gt, 0, none⟩ (.int .i64 1)) m a gw gt gr #[.int .i64 1, .int .i64 st, .int .i64 fn, .int .i64 cy, .int .i64 rp, .int .i64 (j : Int)] #[.int .i64 1, .int .i64 0, .int .i64 cy, .int .i64 rp, .int .i64 (j : Int), .int .i64 0]) := Hv1.out.set 0 _
      go_simp
      clear hHeld
      refine hK'.out _ _ ⟨Hv2.out.rw_, Hv2.out.row⟩ (fun hHeld => ?_)
      clear hK' K' hf hcl Hv1
      generalize v1.setCell ⟨gt, 0, none⟩ (.int .i64 1) = v2 at Hv2 hHeld ⊢
      refine Hl.takeL (i := 9) (d := 40) (v := ?_) rfl (by kernel_rfl) (by kernel_rfl) (by kernel_rfl) (fun _ _ _ h => h) (by rfl) ?_ (by assumption) ?_
      rotate_left
      · intro w hSw; have q1 := hSw.1.c 1 _ rfl; have q2 := hSw.1.c 2 _ rfl; obtain ⟨y0, y1, y2, y3, y4, y5, y6, y7, y8, y9, y10⟩ := hSw.2.mat; go_simp; (try with_reducible rfl)
      simp only [Act.put, List.setIfInBounds_toArray, List.set_cons_zero, List.set_cons_succ]
      refine Hl.consL (i := 10) rfl (by kernel_rfl) (fun K' hK' => ?_)
      have hf := Hv2.out.rt.f 1
      have hcl : v2.cell? ⟨gt, 1, none⟩ = some (.int .i64 0) := Hv2.out.rt.c 1 _ rfl
      have Hv3 : Hid (Yv W (v2.setCell ⟨gt, 1, none⟩ (.int .i64 st)) m a gw gt gr #[.int .i64 1, .int .i64 st, .int .i64 fn, .int .i64 cy, .int .i64 rp, .int .i64 (j : Int)] #[.int .i64 1, .int .i64 st, .int .i64 cy, .int .i64 rp, .int .i64 (j : Int), .int .i64 0]) := Hv2.out.set 1 _
      go_simp
      clear hHeld
      refine hK'.out _ _ ⟨Hv3.out.rw_, Hv3.out.row⟩ (fun hHeld => ?_)
      clear hK' K' hf hcl Hv2
      generalize v2.setCell ⟨gt, 1, none⟩ (.int .i64 st) = v3 at Hv3 hHeld ⊢
      refine Hl.takeL (i := 11) (d := 41) (v := ?_) rfl (by kernel_rfl) (by kernel_rfl) (by kernel_rfl) (fun _ _ _ h => h) (by rfl) ?_ (by assumption) ?_
      rotate_left
      · intro w hSw; have q1 := hSw.1.c 1 _ rfl; have q2 := hSw.1.c 2 _ rfl; obtain ⟨y0, y1, y2, y3, y4, y5, y6, y7, y8, y9, y10⟩ := hSw.2.mat; go_simp; (try with_reducible rfl)
      simp only [Act.put, List.setIfInBounds_toArray, List.set_cons_zero, List.set_cons_succ]
      refine Hl.consL (i := 12) rfl (by kernel_rfl) (fun K' hK' => ?_)
      have hf := Hv3.out.rt.f 5
      have hcl : v3.cell? ⟨gt, 5, none⟩ = some (.int .i64 0) := Hv3.out.rt.c 5 _ rfl
      have Hv4 : Hid (Yv W (v3.setCell ⟨gt, 5, none⟩ (.int .i64 (st + m.enable))) m a gw gt gr #[.int .i64 1, .int .i64 st, .int .i64 fn, .int .i64 cy, .int .i64 rp, .int .i64 (j : Int)] #[.int .i64 1, .int .i64 st, .int .i64 cy, .int .i64 rp, .int .i64 (j : Int), .int .i64 (st + m.enable)]) := Hv3.out.set 5 _
      go_simp
      clear hHeld
      refine hK'.out _ _ ⟨Hv4.out.rw_, Hv4.out.row⟩ (fun hHeld => ?_)
      clear hK' K' hf hcl Hv3
      generalize v3.setCell ⟨gt, 5, none⟩ (.int .i64 (st + m.enable)) = v4 at Hv4 hHeld ⊢
      refine wpAnyH_done (by kernel_rfl) ?_ _
      clear hHeld
      have t0 : v4.cell? ⟨gt, 0, none⟩ = some (.int .i64 1) := Hv4.out.rt.c 0 _ rfl
      have t1 : v4.cell? ⟨gt, 1, none⟩ = some (.int .i64 st) := Hv4.out.rt.c 1 _ rfl
      have t2 : v4.cell? ⟨gt, 2, none⟩ = some (.int .i64 cy) := Hv4.out.rt.c 2 _ rfl
      have t3 : v4.cell? ⟨gt, 3, none⟩ = some (.int .i64 rp) := Hv4.out.rt.c 3 _ rfl
      have t4 : v4.cell? ⟨gt, 4, none⟩ = some (.int .i64 (j : Int)) := Hv4.out.rt.c 4 _ rfl
      have t5 : v4.cell? ⟨gt, 5, none⟩ = some (.int .i64 (st + m.enable)) := Hv4.out.rt.c 5 _ rfl
      go_wp2_with (refine wpList_store_row (P := Tryd.prog) rfl 36 (.tmp 6) (.tmp 65) rfl gr (#[.int .i64 1, .int .i64 st, .int .i64 cy, .int .i64 rp, .int .i64 (j : Int), .int .i64 (st + m.enable)]) rfl rfl 36 _ Hv4.out.rr tinfoW rfl (by simp [Value.oneCell']) ?_)
      obtain ⟨hz, hbl⟩ := Hv4.out.fin (#[.int .i64 1, .int .i64 st, .int .i64 cy, .int .i64 rp, .int .i64 (j : Int), .int .i64 (st + m.enable)])
      generalize v4.setRow gr (#[.int .i64 1, .int .i64 st, .int .i64 cy, .int .i64 rp, .int .i64 (j : Int), .int .i64 (st + m.enable)]) = wz at hz hbl ⊢
      have z0 := hz.c 0 _ rfl
      have z1 := hz.c 1 _ rfl
      have z2 := hz.c 2 _ rfl
      have z3 := hz.c 3 _ rfl
      have z4 := hz.c 4 _ rfl
      have z5 := hz.c 5 _ rfl
      refine bodyPost_ret (v := oV (some ⟨1, st, cy, rp, (j : Int), (st + m.enable)⟩)) (by simp [results, Tryd.results48, go_sem, oV, tC, z0, z1, z2, z3, z4, z5]) rfl ⟨by rw [← HR.out, HTr.out], hbl⟩
    · have eo : (y.owner == who) = false := beq_eq_false_iff_ne.2 e2
      have eA : IntKind.i64.wrap (fn - 1) = fn - 1 := by rw [IntKind.wrap_i64]; omega
      have HTr : Hid (Yq.trig m who ⟨1, st, fn, cy, rp, (j : Int)⟩ = some ⟨3, fn - 1, cy, rp, (j : Int), 0⟩) := by show _ = _; rw [HTr0.out, if_neg e2]
      clear HTr0 hms hy HStp0
      go_upto_region 6 with fail
      have Hv1 : Hid (Yv W v0.drew m a gw gt gr #[.int .i64 1, .int .i64 st, .int .i64 fn, .int .i64 cy, .int .i64 rp, .int .i64 (j : Int)] #[.int .i64 0, .int .i64 0, .int .i64 cy, .int .i64 rp, .int .i64 (j : Int), .int .i64 0]) := HYw.out.on (Below.refl _ _).drew
      clear HYw x0 x1 x2 x3 x4 x5 y0 y1 y2 y3 y4 y5 y6 y7 y8 y9 y10 p1
      refine wp_region_held_drew (S := fun w' => RowT 58 w' gw #[.int .i64 1, .int .i64 st, .int .i64 fn, .int .i64 cy, .int .i64 rp, .int .i64 (j : Int)] ∧ RowT 27 w' W.heap.size (mCs m a)) (by kernel_rfl) ⟨Hv1.out.rw_, Hv1.out.row⟩ (fun hHeld => ?_)
      refine Hl.takeL (i := 0) (d := 46) (v := ?_) rfl (by kernel_rfl) (by kernel_rfl) (by kernel_rfl) (fun _ _ _ h => h) (by rfl) ?_ (by assumption) ?_
      rotate_left
      · intro w hSw; have q1 := hSw.1.c 1 _ rfl; have q2 := hSw.1.c 2 _ rfl; obtain ⟨y0, y1, y2, y3, y4, y5, y6, y7, y8, y9, y10⟩ := hSw.2.mat; go_simp; (try with_reducible rfl)
      simp only [Act.put, List.setIfInBounds_toArray, List.set_cons_zero, List.set_cons_succ]
      refine Hl.takeL (i := 1) (d := 47) (v := ?_) rfl (by kernel_rfl) (by kernel_rfl) (by kernel_rfl) (fun _ _ _ h => h) (by rfl) ?_ (by assumption) ?_
      rotate_left
      · intro w hSw; have q1 := hSw.1.c 1 _ rfl; have q2 := hSw.1.c 2 _ rfl; obtain ⟨y0, y1, y2, y3, y4, y5, y6, y7, y8, y9, y10⟩ := hSw.2.mat; go_simp; (try with_reducible rfl)
      simp only [Act.put, List.setIfInBounds_toArray, List.set_cons_zero, List.set_cons_succ]
      refine Hl.takeL (i := 2) (d := 48) (v := ?_) rfl (by kernel_rfl) (by kernel_rfl) (by kernel_rfl) (fun _ _ _ h => h) (by rfl) ?_ (by assumption) ?_
      rotate_left
      · intro w hSw; have q1 := hSw.1.c 1 _ rfl; have q2 := hSw.1.c 2 _ rfl; obtain ⟨y0, y1, y2, y3, y4, y5, y6, y7, y8, y9, y10⟩ := hSw.2.mat; go_simp; (try with_reducible rfl)
      simp only [Act.put, List.setIfInBounds_toArray, List.set_cons_zero, List.set_cons_succ]
      refine Hl.takeL (i := 3) (d := 49) (v := ?_) rfl (by kernel_rfl) (by kernel_rfl) (by kernel_rfl) (fun _ _ _ h => h) (by rfl) ?_ (by assumption) ?_
      rotate_left
      · intro w hSw; have q1 := hSw.1.c 1 _ rfl; have q2 := hSw.1.c 2 _ rfl; obtain ⟨y0, y1, y2, y3, y4, y5, y6, y7, y8, y9, y10⟩ := hSw.2.mat; go_simp; (try with_reducible rfl)
      simp only [Act.put, List.setIfInBounds_toArray, List.set_cons_zero, List.set_cons_succ]
      generalize v0.drew = v1 at Hv1 hHeld ⊢
      refine Hl.consL (i := 4) rfl (by kernel_rfl) (fun K' hK' => ?_)
      have hf := Hv1.out.rt.f 0
      have hcl : v1.cell? ⟨gt, 0, none⟩ = some (.int .i64 0) := Hv1.out.rt.c 0 _ rfl
      have Hv2 : Hid (Yv W (v1.setCell ⟨gt, 0, none⟩ (.int .i64 3)) m a gw gt gr #[.int .i64 1, .int .i64 st, .int .i64 fn, .int .i64 cy, .int .i64 rp, .int .i64 (j : Int)] #[.int .i64 3, .int .i64 0, .int .i64 cy, .int .i64 rp, .int .i64 (j : Int), .int .i64 0]) := Hv1.out.set 0 _
      go_simp
      clear hHeld
      refine hK'.out _ _ ⟨Hv2.out.rw_, Hv2.out.row⟩ (fun hHeld => ?_)
      clear hK' K' hf hcl Hv1
      generalize v1.setCell ⟨gt, 0, none⟩ (.int .i64 3) = v2 at Hv2 hHeld ⊢
      refine Hl.takeL (i := 5) (d := 50) (v := ?_) rfl (by kernel_rfl) (by kernel_rfl) (by kernel_rfl) (fun _ _ _ h => h) (by rfl) ?_ (by assumption) ?_
      rotate_left
      · intro w hSw; have q1 := hSw.1.c 1 _ rfl; have q2 := hSw.1.c 2 _ rfl; obtain ⟨y0, y1, y2, y3, y4, y5, y6, y7, y8, y9, y10⟩ := hSw.2.mat; go_simp; (try with_reducible rfl)
      simp only [Act.put, List.setIfInBounds_toArray, List.set_cons_zero, List.set_cons_succ]
      refine Hl.consL (i := 6) rfl (by kernel_rfl) (fun K' hK' => ?_)
      have hf := Hv2.out.rt.f 1
      have hcl : v2.cell? ⟨gt, 1, none⟩ = some (.int .i64 0) := Hv2.out.rt.c 1 _ rfl
      have Hv3 : Hid (Yv W (v2.setCell ⟨gt, 1, none⟩ (.int .i64 (fn - 1))) m a gw gt gr #[.int .i64 1, .int .i64 st, .int .i64 fn, .int .i64 cy, .int .i64 rp, .int .i64 (j : Int)] #[.int .i64 3, .int .i64 (fn - 1), .int .i64 cy, .int .i64 rp, .int .i64 (j : Int), .int .i64 0]) := Hv2.out.set 1 _
      go_simp
      clear hHeld
      refine hK'.out _ _ ⟨Hv3.out.rw_, Hv3.out.row⟩ (fun hHeld => ?_)
      clear hK' K' hf hcl Hv2
      generalize v2.setCell ⟨gt, 1, none⟩ (.int .i64 (fn - 1)) = v3 at Hv3 hHeld ⊢
      refine wpAnyH_done (by kernel_rfl) ?_ _
      clear hHeld
      have t0 : v3.cell? ⟨gt, 0, none⟩ = some (.int .i64 3) := Hv3.out.rt.c 0 _ rfl
      have t1 : v3.cell? ⟨gt, 1, none⟩ = some (.int .i64 (fn - 1)) := Hv3.out.rt.c 1 _ rfl
      have t2 : v3.cell? ⟨gt, 2, none⟩ = some (.int .i64 cy) := Hv3.out.rt.c 2 _ rfl
      have t3 : v3.cell? ⟨gt, 3, none⟩ = some (.int .i64 rp) := Hv3.out.rt.c 3 _ rfl
      have t4 : v3.cell? ⟨gt, 4, none⟩ = some (.int .i64 (j : Int)) := Hv3.out.rt.c 4 _ rfl
      have t5 : v3.cell? ⟨gt, 5, none⟩ = some (.int .i64 0) := Hv3.out.rt.c 5 _ rfl
      go_wp2_with (refine wpList_store_row (P := Tryd.prog) rfl 36 (.tmp 6) (.tmp 65) rfl gr (#[.int .i64 3, .int .i64 (fn - 1), .int .i64 cy, .int .i64 rp, .int .i64 (j : Int), .int .i64 0]) rfl rfl 36 _ Hv3.out.rr tinfoW rfl (by simp [Value.oneCell']) ?_)
      obtain ⟨hz, hbl⟩ := Hv3.out.fin (#[.int .i64 3, .int .i64 (fn - 1), .int .i64 cy, .int .i64 rp, .int .i64 (j : Int), .int .i64 0])
      generalize v3.setRow gr (#[.int .i64 3, .int .i64 (fn - 1), .int .i64 cy, .int .i64 rp, .int .i64 (j : Int), .int .i64 0]) = wz at hz hbl ⊢
      have z0 := hz.c 0 _ rfl
      have z1 := hz.c 1 _ rfl
      have z2 := hz.c 2 _ rfl
      have z3 := hz.c 3 _ rfl
      have z4 := hz.c 4 _ rfl
      have z5 := hz.c 5 _ rfl
      refine bodyPost_ret (v := oV (some ⟨3, (fn - 1), cy, rp, (j : Int), 0⟩)) (by simp [results, Tryd.results48, go_sem, oV, tC, z0, z1, z2, z3, z4, z5]) rfl ⟨by rw [← HR.out, HTr.out], hbl⟩
  by_cases e2 : kd = 2
  · subst e2
    have HTr : Hid (Yq.trig m who ⟨2, st, fn, cy, rp, ms⟩ = some ⟨2, st, cy, rp, ms, fn - Lq.step m⟩) := rfl
    have HStp : Hid (∀ v, Yv W v m a gw gt gr #[.int .i64 2, .int .i64 st, .int .i64 fn, .int .i64 cy, .int .i64 rp, .int .i64 ms] #[.int .i64 0, .int .i64 0, .int .i64 cy, .int .i64 rp, .int .i64 ms, .int .i64 0] → Calls Tryd.prog 42 #[mV m a] v fun e w' => e = .returned (.int .i64 (Lq.step m)) ∧ Below v.heap.size v w') := fun v h => HStp0.out v h.bx
    have eA : IntKind.i64.wrap (fn - Lq.step m) = fn - Lq.step m := by rw [IntKind.wrap_i64]; omega
    have x0 : v0.cell? ⟨gw, 0, none⟩ = some (.int .i64 2) := HYw.out.rw_.c 0 _ rfl
    have x1 : v0.cell? ⟨gw, 1, none⟩ = some (.int .i64 st) := HYw.out.rw_.c 1 _ rfl
    have x2 : v0.cell? ⟨gw, 2, none⟩ = some (.int .i64 fn) := HYw.out.rw_.c 2 _ rfl
    have x3 : v0.cell? ⟨gw, 3, none⟩ = some (.int .i64 cy) := HYw.out.rw_.c 3 _ rfl
    have x4 : v0.cell? ⟨gw, 4, none⟩ = some (.int .i64 rp) := HYw.out.rw_.c 4 _ rfl
    have x5 : v0.cell? ⟨gw, 5, none⟩ = some (.int .i64 ms) := HYw.out.rw_.c 5 _ rfl
    clear hms HStp0
    go_upto_region 8 with fail
    have Hv1 : Hid (Yv W v0.drew m a gw gt gr #[.int .i64 2, .int .i64 st, .int .i64 fn, .int .i64 cy, .int .i64 rp, .int .i64 ms] #[.int .i64 0, .int .i64 0, .int .i64 cy, .int .i64 rp, .int .i64 ms, .int .i64 0]) := HYw.out.on (Below.refl _ _).drew
    clear HYw x0 x1 x2 x3 x4 x5
    refine wp_region_held_drew (S := fun w' => RowT 58 w' gw #[.int .i64 2, .int .i64 st, .int .i64 fn, .int .i64 cy, .int .i64 rp, .int .i64 ms] ∧ RowT 27 w' W.heap.size (mCs m a)) (by kernel_rfl) ⟨Hv1.out.rw_, Hv1.out.row⟩ (fun hHeld => ?_)
    refine Hl.takeL (i := 0) (d := 55) (v := ?_) rfl (by kernel_rfl) (by kernel_rfl) (by kernel_rfl) (fun _ _ _ h => h) (by rfl) ?_ (by assumption) ?_
    rotate_left
    · intro w hSw; have q1 := hSw.1.c 1 _ rfl; have q2 := hSw.1.c 2 _ rfl; obtain ⟨y0, y1, y2, y3, y4, y5, y6, y7, y8, y9, y10⟩ := hSw.2.mat; go_simp; (try with_reducible rfl)
    simp only [Act.put, List.setIfInBounds_toArray, List.set_cons_zero, List.set_cons_succ]
    refine Hl.takeL (i := 1) (d := 56) (v := ?_) rfl (by kernel_rfl) (by kernel_rfl) (by kernel_rfl) (fun _ _ _ h => h) (by rfl) ?_ (by assumption) ?_
    rotate_left
    · intro w hSw; have q1 := hSw.1.c 1 _ rfl; have q2 := hSw.1.c 2 _ rfl; obtain ⟨y0, y1, y2, y3, y4, y5, y6, y7, y8, y9, y10⟩ := hSw.2.mat; go_simp; (try with_reducible rfl)
    simp only [Act.put, List.setIfInBounds_toArray, List.set_cons_zero, List.set_cons_succ]
    refine Hl.takeL (i := 2) (d := 57) (v := ?_) rfl (by kernel_rfl) (by kernel_rfl) (by kernel_rfl) (fun _ _ _ h => h) (by rfl) ?_ (by assumption) ?_
    rotate_left
    · intro w hSw; have q1 := hSw.1.c 1 _ rfl; have q2 := hSw.1.c 2 _ rfl; obtain ⟨y0, y1, y2, y3, y4, y5, y6, y7, y8, y9, y10⟩ := hSw.2.mat; go_simp; (try with_reducible rfl)
    simp only [Act.put, List.setIfInBounds_toArray, List.set_cons_zero, List.set_cons_succ]
    refine Hl.takeL (i := 3) (d := 58) (v := ?_) rfl (by kernel_rfl) (by kernel_rfl) (by kernel_rfl) (fun _ _ _ h => h) (by rfl) ?_ (by assumption) ?_
    rotate_left
    · intro w hSw; have q1 := hSw.1.c 1 _ rfl; have q2 := hSw.1.c 2 _ rfl; obtain ⟨y0, y1, y2, y3, y4, y5, y6, y7, y8, y9, y10⟩ := hSw.2.mat; go_simp; (try with_reducible rfl)
    simp only [Act.put, List.setIfInBounds_toArray, List.set_cons_zero, List.set_cons_succ]
    refine Hl.takeL (i := 4) (d := 59) (v := ?_) rfl (by kernel_rfl) (by kernel_rfl) (by kernel_rfl) (fun _ _ _ h => h) (by rfl) ?_ (by assumption) ?_
    rotate_left
    · intro w hSw; have q1 := hSw.1.c 1 _ rfl; have q2 := hSw.1.c 2 _ rfl; obtain ⟨y0, y1, y2, y3, y4, y5, y6, y7, y8, y9, y10⟩ := hSw.2.mat; go_simp; (try with_reducible rfl)
    simp only [Act.put, List.setIfInBounds_toArray, List.set_cons_zero, List.set_cons_succ]
    refine Hl.takeL (i := 7) (d := 62) (v := ?_) rfl (by kernel_rfl) (by kernel_rfl) (by kernel_rfl) (fun _ _ _ h => h) (by rfl) ?_ (by assumption) ?_
    rotate_left
    · intro w hSw; have q1 := hSw.1.c 1 _ rfl; have q2 := hSw.1.c 2 _ rfl; obtain ⟨y0, y1, y2, y3, y4, y5, y6, y7, y8, y9, y10⟩ := hSw.2.mat; go_simp; (try with_reducible rfl)
    simp only [Act.put, List.setIfInBounds_toArray, List.set_cons_zero, List.set_cons_succ]
    generalize v0.drew = v1 at Hv1 hHeld ⊢
    refine Hl.consL (i := 5) rfl (by kernel_rfl) (fun K' hK' => ?_)
    go_simp
    refine (HStp.out _ Hv1.out).mono ?_
    rintro e v2 ⟨rfl, hb⟩
    have Hv2 : Hid (Yv W v2 m a gw gt gr #[.int .i64 2, .int .i64 st, .int .i64 fn, .int .i64 cy, .int .i64 rp, .int .i64 ms] #[.int .i64 0, .int .i64 0, .int .i64 cy, .int .i64 rp, .int .i64 ms, .int .i64 0]) := Hv1.out.on hb
    clear hb Hv1 hHeld HStp
    try go_wp2_with fail
    refine hK'.out _ _ ⟨Hv2.out.rw_, Hv2.out.row⟩ (fun hHeld => ?_)
    clear hK' K'
    refine Hl.takeL (i := 6) (d := 61) (v := ?_) rfl (by kernel_rfl) (by kernel_rfl) (by kernel_rfl) (fun _ _ _ h => h) (by rfl) ?_ (by assumption) ?_
    rotate_left
    · intro w hSw; have q1 := hSw.1.c 1 _ rfl; have q2 := hSw.1.c 2 _ rfl; obtain ⟨y0, y1, y2, y3, y4, y5, y6, y7, y8, y9, y10⟩ := hSw.2.mat; go_simp; (try with_reducible rfl)
    simp only [Act.put, List.setIfInBounds_toArray, List.set_cons_zero, List.set_cons_succ]
    refine Hl.consL (i := 8) rfl (by kernel_rfl) (fun K' hK' => ?_)
    have hf := Hv2.out.rt.f 0
    have hcl : v2.cell? ⟨gt, 0, none⟩ = some (.int .i64 0) := Hv2.out.rt.c 0 _ rfl
    have Hv3 : Hid (Yv W (v2.setCell ⟨gt, 0, none⟩ (.int .i64 2)) m a gw gt gr #[.int .i64 2, .int .i64 st, .int .i64 fn, .int .i64 cy, .int .i64 rp, .int .i64 ms] #[.int .i64 2, .int .i64 0, .int .i64 cy, .int .i64 rp, .int .i64 ms, .int .i64 0]) := Hv2.out.set 0 _
    go_simp
    clear hHeld
    refine hK'.out _ _ ⟨Hv3.out.rw_, Hv3.out.row⟩ (fun hHeld => ?_)
    clear hK' K' hf hcl Hv2
    generalize v2.setCell ⟨gt, 0, none⟩ (.int .i64 2) = v3 at Hv3 hHeld ⊢
    refine Hl.takeL (i := 9) (d := 63) (v := ?_) rfl (by kernel_rfl) (by kernel_rfl) (by kernel_rfl) (fun _ _ _ h => h) (by rfl) ?_ (by assumption) ?_
    rotate_left
    · intro w hSw; have q1 := hSw.1.c 1 _ rfl; have q2 := hSw.1.c 2 _ rfl; obtain ⟨y0, y1, y2, y3, y4, y5, y6, y7, y8, y9, y10⟩ := hSw.2.mat; go_simp; (try with_reducible rfl)
    simp only [Act.put, List.setIfInBounds_toArray, List.set_cons_zero, List.set_cons_succ]
    refine Hl.consL (i := 10) rfl (by kernel_rfl) (fun K' hK' => ?_)
    have hf := Hv3.out.rt.f 1
    have hcl : v3.cell? ⟨gt, 1, none⟩ = some (.int .i64 0) := Hv3.out.rt.c 1 _ rfl
    have Hv4 : Hid (Yv W (v3.setCell ⟨gt, 1, none⟩ (.int .i64 st)) m a gw gt gr #[.int .i64 2, .int .i64 st, .int .i64 fn, .int .i64 cy, .int .i64 rp, .int .i64 ms] #[.int .i64 2, .int .i64 st, .int .i64 cy, .int .i64 rp, .int .i64 ms, .int .i64 0]) := Hv3.out.set 1 _
    go_simp
    clear hHeld
    refine hK'.out _ _ ⟨Hv4.out.rw_, Hv4.out.row⟩ (fun hHeld => ?_)
    clear hK' K' hf hcl Hv3
    generalize v3.setCell ⟨gt, 1, none⟩ (.int .i64 st) = v4 at Hv4 hHeld ⊢
    refine Hl.takeL (i := 11) (d := 64) (v := ?_) rfl (by kernel_rfl) (by kernel_rfl) (by kernel_rfl) (fun _ _ _ h => h) (by rfl) ?_ (by assumption) ?_
    rotate_left
    · intro w hSw; have q1 := hSw.1.c 1 _ rfl; have q2 := hSw.1.c 2 _ rfl; obtain ⟨y0, y1, y2, y3, y4, y5, y6, y7, y8, y9, y10⟩ := hSw.2.mat; go_simp; (try with_reducible rfl)
    simp only [Act.put, List.setIfInBounds_toArray, List.set_cons_zero, List.set_cons_succ]
    refine Hl.consL (i := 12) rfl (by kernel_rfl) (fun K' hK' => ?_)
    have hf := Hv4.out.rt.f 5
    have hcl : v4.cell? ⟨gt, 5, none⟩ = some (.int .i64 0) := Hv4.out.rt.c 5 _ rfl
    have Hv5 : Hid (Yv W (v4.setCell ⟨gt, 5, none⟩ (.int .i64 (fn - Lq.step m))) m a gw gt gr #[.int .i64 2, .int .i64 st, .int .i64 fn, .int .i64 cy, .int .i64 rp, .int .i64 ms] #[.int .i64 2, .int .i64 st, .int .i64 cy, .int .i64 rp, .int .i64 ms, .int .i64 (fn - Lq.step m)]) := Hv4.out.set 5 _
    go_simp
    clear hHeld
    refine hK'.out _ _ ⟨Hv5.out.rw_, Hv5.out.row⟩ (fun hHeld => ?_)
    clear hK' K' hf hcl Hv4
    generalize v4.setCell ⟨gt, 5, none⟩ (.int .i64 (fn - Lq.step m)) = v5 at Hv5 hHeld ⊢
    refine wpAnyH_done (by kernel_rfl) ?_ _
    clear hHeld
    have t0 : v5.cell? ⟨gt, 0, none⟩ = some (.int .i64 2) := Hv5.out.rt.c 0 _ rfl
    have t1 : v5.cell? ⟨gt, 1, none⟩ = some (.int .i64 st) := Hv5.out.rt.c 1 _ rfl
    have t2 : v5.cell? ⟨gt, 2, none⟩ = some (.int .i64 cy) := Hv5.out.rt.c 2 _ rfl
    have t3 : v5.cell? ⟨gt, 3, none⟩ = some (.int .i64 rp) := Hv5.out.rt.c 3 _ rfl
    have t4 : v5.cell? ⟨gt, 4, none⟩ = some (.int .i64 ms) := Hv5.out.rt.c 4 _ rfl
    have t5 : v5.cell? ⟨gt, 5, none⟩ = some (.int .i64 (fn - Lq.step m)) := Hv5.out.rt.c 5 _ rfl
    go_wp2_with (refine wpList_store_row (P := Tryd.prog) rfl 36 (.tmp 6) (.tmp 65) rfl gr (#[.int .i64 2, .int .i64 st, .int .i64 cy, .int .i64 rp, .int .i64 ms, .int .i64 (fn - Lq.step m)]) rfl rfl 36 _ Hv5.out.rr tinfoW rfl (by simp [Value.oneCell']) ?_)
    obtain ⟨hz, hbl⟩ := Hv5.out.fin (#[.int .i64 2, .int .i64 st, .int .i64 cy, .int .i64 rp, .int .i64 ms, .int .i64 (fn - Lq.step m)])
    generalize v5.setRow gr (#[.int .i64 2, .int .i64 st, .int .i64 cy, .int .i64 rp, .int .i64 ms, .int .i64 (fn - Lq.step m)]) = wz at hz hbl ⊢
    have z0 := hz.c 0 _ rfl
    have z1 := hz.c 1 _ rfl
    have z2 := hz.c 2 _ rfl
    have z3 := hz.c 3 _ rfl
    have z4 := hz.c 4 _ rfl
    have z5 := hz.c 5 _ rfl
    refine bodyPost_ret (v := oV (some ⟨2, st, cy, rp, ms, (fn - Lq.step m)⟩)) (by simp [results, Tryd.results48, go_sem, oV, tC, z0, z1, z2, z3, z4, z5]) rfl ⟨by rw [← HR.out, HTr.out], hbl⟩
  have HTr : Hid (Yq.trig m who ⟨kd, st, fn, cy, rp, ms⟩ = none) := by show _ = _; unfold Yq.trig; rw [if_neg e1, if_neg e2]
  have e1b : (kd == 1) = false := beq_eq_false_iff_ne.2 e1
  have e2b : (kd == 2) = false := beq_eq_false_iff_ne.2 e2
  have x0 : v0.cell? ⟨gw, 0, none⟩ = some (.int .i64 kd) := HYw.out.rw_.c 0 _ rfl
  have x1 : v0.cell? ⟨gw, 1, none⟩ = some (.int .i64 st) := HYw.out.rw_.c 1 _ rfl
  have x2 : v0.cell? ⟨gw, 2, none⟩ = some (.int .i64 fn) := HYw.out.rw_.c 2 _ rfl
  have x3 : v0.cell? ⟨gw, 3, none⟩ = some (.int .i64 cy) := HYw.out.rw_.c 3 _ rfl
  have x4 : v0.cell? ⟨gw, 4, none⟩ = some (.int .i64 rp) := HYw.out.rw_.c 4 _ rfl
  have x5 : v0.cell? ⟨gw, 5, none⟩ = some (.int .i64 ms) := HYw.out.rw_.c 5 _ rfl
  have Hv0 := HYw
  clear HYw hms HStp0
  go_upto_region 2 with fail
  clear x0 x1 x2 x3 x4 x5 e1b e2b
  go_wp2_with (refine wpList_store_row (P := Tryd.prog) rfl 36 (.tmp 6) (.tmp 16) rfl gr (#[.int .i64 0, .int .i64 0, .int .i64 0, .int .i64 0, .int .i64 0, .int .i64 0]) rfl rfl 36 _ Hv0.out.rr tinfoW rfl (by simp [Value.oneCell']) ?_)
  obtain ⟨hz, hbl⟩ := Hv0.out.fin (#[.int .i64 0, .int .i64 0, .int .i64 0, .int .i64 0, .int .i64 0, .int .i64 0])
  generalize v0.setRow gr (#[.int .i64 0, .int .i64 0, .int .i64 0, .int .i64 0, .int .i64 0, .int .i64 0]) = wz at hz hbl ⊢
  have z0 := hz.c 0 _ rfl
  have z1 := hz.c 1 _ rfl
  have z2 := hz.c 2 _ rfl
  have z3 := hz.c 3 _ rfl
  have z4 := hz.c 4 _ rfl
  have z5 := hz.c 5 _ rfl
  refine bodyPost_ret (v := oV none) (by simp [results, Tryd.results48, go_sem, oV, z0, z1, z2, z3, z4, z5]) rfl ⟨by rw [← HR.out, HTr.out], hbl⟩
end Go.Proofs.YtnbfnipdiffphaaDoor
/- Package plan, over the landed code: all that a node does. -/
namespace Go.Proofs.YtnbfnipdiffphaaDoor
open Go.RowKit Go.WideShapes
set_option linter.unusedVariables false
namespace Yq
open Mx
def back (m : M) (who : Int) : List Tr := if 0 ≤ rank m who then [⟨4, m.length, 0, 1, 0, 0⟩, ⟨4, beat m (rank m who), 0, 1, 1, 0⟩] else []
def node (m : M) (who : Int) : List Tr := m.windows.filterMap (trig m who) ++ back m who ++ [⟨5, watch m, 0, 1, 0, 0⟩]
theorem plan_node {m : M} (h : (Lq.check m).2 = 0) (who : Int) : plan m who = (node m who).foldl lay [] := by
  have e : wins m who m.windows = (m.windows.filterMap (trig m who)).foldl lay [] := by
    unfold wins
    rw [List.foldl_filterMap]
    congr 1
    funext l x
    unfold put
    cases trig m who x <;> rfl
  unfold plan node refs back
  rw [if_pos h, e, List.foldl_append, List.foldl_append]
  by_cases hr : 0 ≤ rank m who
  · rw [if_pos hr, if_pos hr]; rfl
  · rw [if_neg hr, if_neg hr]; rfl
theorem fm_step {m : M} {who : Int} {k : Nat} {x : Win} (hx : m.windows[k]? = some x) : (m.windows.take (k + 1)).filterMap (trig m who) = (m.windows.take k).filterMap (trig m who) ++ (match trig m who x with | some t => [t] | none => []) := by
  rw [List.take_add_one, hx, List.filterMap_append]
  congr 1
  simp only [Option.toList_some, List.filterMap_cons, List.filterMap_nil]
  cases trig m who x <;> rfl
theorem fm_len (m : M) (who : Int) (k : Nat) : ((m.windows.take k).filterMap (trig m who)).length ≤ k := Nat.le_trans (List.length_filterMap_le _ _) (by rw [List.length_take]; omega)
theorem node_len {m : M} (h : m.windows.length ≤ 16) (who : Int) : (node m who).length ≤ 19 := by
  unfold node back
  have h1 := List.length_filterMap_le (trig m who) m.windows
  split <;> simp only [List.length_append, List.length_cons, List.length_nil] <;> omega
theorem rank_ge (m : M) (who : Int) : -1 ≤ rank m who := by unfold rank firstAt; split <;> omega
theorem wins16' {m : M} (h : Mx.is m = true) : m.windows.length ≤ 16 := by
  simp only [Mx.is, Mx.lens, Bool.and_eq_true, decide_eq_true_eq] at h
  omega
end Yq
/-- An append onto a list of triggers leaves the matrix. -/
theorem Yl.bx {W w w' : World} {m : Mx.M} {a : Ma} {s : Option Addr} {c n : Nat} {C : List Value} (h0 : MIn W m a) (h : Bx W w W.heap.size m a) (ho : Sg.OL 36 6 W.heap.size w s c n C) (hk : Kept (Sg.At_ s c) w w') : Bx W w' W.heap.size m a := by
  have hb := h.below.trans (ho.below hk h.below.size)
  exact ⟨ho.row hk h.row (by decide), h0.on hb, hb⟩
set_option maxRecDepth 100000 in
set_option maxHeartbeats 4000000 in
theorem pk_node (W : World) (hT : Tab W) (m : Mx.M) (a : Ma) (who : Int) (hm : MIn W m a) (hP : Lq.Passes m) (hwho : (Lit.int .i64 who).wf = true) : Tells Tryd.prog 34 #[mV m a, .int .i64 who] W (Yq.node m who) := by
  have HX : Hid (Bx W (W.alloc (.cells (mCs m a) 27)) W.heap.size m a) := Bx.mk' hm
  have HOr : Hid (MIn W m a) := hm
  have hlen : m.windows.length ≤ 16 := Yq.wins16' hP.is
  have HTb : Hid (∀ w', Below W.heap.size W w' → Tab w') := fun w' hb => hT.below hb
  have HWi : Hid (∀ v x k, Bx W v W.heap.size m a → m.windows[k]? = some x → Calls Tryd.prog 48 #[mV m a, .agg #[.int .i64 x.kind, .int .i64 x.start, .int .i64 x.fin, .int .i64 x.cycle, .int .i64 x.rep, .int .i64 x.msg], .int .i64 who] v fun e w' => e = .returned (oV (Yq.trig m who x)) ∧ Below v.heap.size v w') := fun v x k h hx => pk_window v (HTb.out _ h.below) m a x who h.mem hP k hx
  have HRk : Hid (∀ w, Bx W w W.heap.size m a → Calls Tryd.prog 49 #[mV m a, .int .i64 who] w fun e w' => e = .returned (.int .i64 (Mx.rank m who)) ∧ Below w.heap.size w w') := fun w h => mk_rank w m a who h.mem (Mx.small_is hP.is)
  have HBt : Hid (∀ w r, Bx W w W.heap.size m a → (Lit.int .i64 r).wf = true → Calls Tryd.prog 51 #[mV m a, .int .i64 r] w fun e w' => e = .returned (.int .i64 (Yq.beat m r)) ∧ Below w.heap.size w w') := fun w r h hr => pk_beat w (HTb.out _ h.below) m a r h.mem (Mx.small_is hP.is) (Mx.wf_is hP.is) hr
  have HWt : Hid (∀ w, Bx W w W.heap.size m a → Calls Tryd.prog 52 #[mV m a] w fun e w' => e = .returned (.int .i64 (Yq.watch m)) ∧ Below w.heap.size w w') := fun w h => pk_watch w (HTb.out _ h.below) m a h.mem (Mx.small_is hP.is) (Mx.wf_is hP.is)
  have HEv : Hid (∀ w k at_ ms, Calls Tryd.prog 50 #[.int .i64 k, .int .i64 at_, .int .i64 ms] w fun e w' => e = .returned (.agg #[.int .i64 k, .int .i64 at_, .int .i64 0, .int .i64 1, .int .i64 ms, .int .i64 0]) ∧ Below w.heap.size w w') := fun w k at_ ms => pk_every w k at_ ms
  have HRb : Hid ((Lit.int .i64 (Mx.rank m who)).wf = true) := by
    show _ = _
    have h1 := Yq.rank_ge m who
    have h2 : Mx.rank m who < (m.masters.length : Int) ∨ Mx.rank m who = -1 := Yq.rank_lt
    have h3 := (Mx.small_is hP.is).a
    exact wfi (by omega)
  obtain ⟨y0, y1, y2, y3, y4, y5, y6, y7, y8, y9, y10⟩ := HX.out.row.mat
  obtain ⟨V, hV⟩ : ∃ V, Yq.node m who = V := ⟨_, rfl⟩
  have HV : Hid (V = m.windows.filterMap (Yq.trig m who) ++ Yq.back m who ++ [⟨5, Yq.watch m, 0, 1, 0, 0⟩]) := hV.symm
  have hVl : V.length ≤ 19 := by rw [← hV]; exact Yq.node_len hlen who
  rw [hV]
  unfold Tells
  clear hV hm hP hT
  go_enter Tryd.func34, Tryd.ntmps34
  go_wp2_with fail
  go_loopw [5, 14] (fun vl vi wr => ∃ (k : Nat) (s : Option Addr) (c n : Nat) (d : List Yq.Tr), k ≤ m.windows.length ∧ vi = .int .i64 (k : Int) ∧ vl = .slice s n c ∧ Hid (n = d.length) ∧ Hid (d = (m.windows.take k).filterMap (Yq.trig m who)) ∧ Hid (Sg.OL 36 6 W.heap.size wr s c n (d.flatMap tC)) ∧ Hid (Bx W wr W.heap.size m a)) (fun _ vi _ => m.windows.length - (intOf vi).toNat)
  case atStart => exact ⟨0, none, 0, 0, [], Nat.zero_le _, rfl, rfl, rfl, rfl, Sg.OL.nil _ _ _ _, HX⟩
  case round =>
    clear HX y0 y1 y2 y3 y4 y5 y6 y7 y8 y9 y10
    obtain ⟨k, s, c, n, d, hk, rfl, rfl, HN, HD, HO, HX⟩ := hrel
    by_cases hkl : k < m.windows.length
    · obtain ⟨x, hx⟩ : ∃ x, m.windows[k]? = some x := ⟨_, List.getElem?_eq_getElem hkl⟩
      obtain ⟨g, o, hs, _, c0, c1, c2, c3, c4, c5⟩ := HX.out.mem.window hx
      have HW1 : Hid ((m.windows.take (k + 1)).filterMap (Yq.trig m who) = d ++ (match Yq.trig m who x with | some t => [t] | none => [])) := by show _ = _; rw [HD.out]; exact Yq.fm_step hx
      have hdl : d.length ≤ 1000 := by rw [HD.out]; exact Nat.le_trans (Yq.fm_len m who k) (by omega)
      have HWx := HWi.out
      have ki : (k : Int) < (m.windows.length : Int) := by omega
      have kb : (k : Int) < 1000 := by omega
      have hb1 : Below wr.heap.size wr (wr.alloc (.cells #[.int .i64 x.kind, .int .i64 x.start, .int .i64 x.fin, .int .i64 x.cycle, .int .i64 x.rep, .int .i64 x.msg] 58)) := (Below.refl _ _).alloc (Nat.le_refl _) _
      have HV2 : Hid (RowT 58 (wr.alloc (.cells #[.int .i64 x.kind, .int .i64 x.start, .int .i64 x.fin, .int .i64 x.cycle, .int .i64 x.rep, .int .i64 x.msg] 58)) wr.heap.size #[.int .i64 x.kind, .int .i64 x.start, .int .i64 x.fin, .int .i64 x.cycle, .int .i64 x.rep, .int .i64 x.msg]) := RowT.new _ wr _
      have HXv : Hid (Bx W (wr.alloc (.cells #[.int .i64 x.kind, .int .i64 x.start, .int .i64 x.fin, .int .i64 x.cycle, .int .i64 x.rep, .int .i64 x.msg] 58)) W.heap.size m a) := HX.out.on hb1
      have HOv : Hid (Sg.OL 36 6 W.heap.size (wr.alloc (.cells #[.int .i64 x.kind, .int .i64 x.start, .int .i64 x.fin, .int .i64 x.cycle, .int .i64 x.rep, .int .i64 x.msg] 58)) s c n (d.flatMap tC)) := HO.out.on hb1
      have HCw : Hid (∀ v, Bx W v W.heap.size m a → Calls Tryd.prog 48 #[mV m a, .agg #[.int .i64 x.kind, .int .i64 x.start, .int .i64 x.fin, .int .i64 x.cycle, .int .i64 x.rep, .int .i64 x.msg], .int .i64 who] v fun e w' => e = .returned (oV (Yq.trig m who x)) ∧ Below v.heap.size v w') := fun v h => HWi.out v x k h hx
      clear hb1 HX HO HD hx HWx HWi HRk HBt HWt HEv HRb HV
      go_upto_region 5 with fail
      try rw [← hs]
      clear hs c0 c1 c2 c3 c4 c5
      generalize wr.alloc (.cells #[.int .i64 x.kind, .int .i64 x.start, .int .i64 x.fin, .int .i64 x.cycle, .int .i64 x.rep, .int .i64 x.msg] 58) = v at HV2 HXv HOv ⊢
      generalize wr.heap.size = q at HV2 ⊢
      obtain ⟨y0, y1, y2, y3, y4, y5, y6, y7, y8, y9, y10⟩ := HXv.out.row.mat
      have x0 := HV2.out.c 0 _ rfl
      have x1 := HV2.out.c 1 _ rfl
      have x2 := HV2.out.c 2 _ rfl
      have x3 := HV2.out.c 3 _ rfl
      have x4 := HV2.out.c 4 _ rfl
      have x5 := HV2.out.c 5 _ rfl
      go_wp2_with fail
      refine (HCw.out _ HXv.out).mono ?_
      rintro e w1 ⟨rfl, hb⟩
      replace HXv : Hid (Bx W w1 W.heap.size m a) := HXv.out.on hb
      replace HOv : Hid (Sg.OL 36 6 W.heap.size w1 s c n (d.flatMap tC)) := HOv.out.on hb
      clear hb HCw HV2 y0 y1 y2 y3 y4 y5 y6 y7 y8 y9 y10 x0 x1 x2 x3 x4 x5
      cases htr : Yq.trig m who x with
      | none =>
        rw [htr] at HW1
        simp only [List.append_nil] at HW1
        have hb1 : Below w1.heap.size w1 (w1.alloc (.cells #[.int .i64 0, .int .i64 0, .int .i64 0, .int .i64 0, .int .i64 0, .int .i64 0] 36)) := (Below.refl _ _).alloc (Nat.le_refl _) _
        have HX2 : Hid (Bx W (w1.alloc (.cells #[.int .i64 0, .int .i64 0, .int .i64 0, .int .i64 0, .int .i64 0, .int .i64 0] 36)) W.heap.size m a) := HXv.out.on hb1
        have HO2 : Hid (Sg.OL 36 6 W.heap.size (w1.alloc (.cells #[.int .i64 0, .int .i64 0, .int .i64 0, .int .i64 0, .int .i64 0, .int .i64 0] 36)) s c n (d.flatMap tC)) := HOv.out.on hb1
        have HD2 : Hid (d = (m.windows.take (k + 1)).filterMap (Yq.trig m who)) := HW1.out.symm
        clear hb1 HXv HOv HW1
        dsimp only [oV]
        go_wp2_with fail
        go_roundw
        case rel => exact ⟨k + 1, s, c, n, d, by omega, rfl, rfl, HN, HD2, HO2, HX2⟩
        case measure => simp only [intOf]; omega
      | some t =>
        rw [htr] at HW1
        dsimp only at HW1
        have hb1 : Below w1.heap.size w1 (w1.alloc (.cells #[.int .i64 t.kind, .int .i64 t.at_, .int .i64 t.cycle, .int .i64 t.rep, .int .i64 t.msg, .int .i64 t.til] 36)) := (Below.refl _ _).alloc (Nat.le_refl _) _
        have HX2 : Hid (Bx W (w1.alloc (.cells #[.int .i64 t.kind, .int .i64 t.at_, .int .i64 t.cycle, .int .i64 t.rep, .int .i64 t.msg, .int .i64 t.til] 36)) W.heap.size m a) := HXv.out.on hb1
        have HO2 : Hid (Sg.OL 36 6 W.heap.size (w1.alloc (.cells #[.int .i64 t.kind, .int .i64 t.at_, .int .i64 t.cycle, .int .i64 t.rep, .int .i64 t.msg, .int .i64 t.til] 36)) s c n (d.flatMap tC)) := HOv.out.on hb1
        have HV2 : Hid (RowT 36 (w1.alloc (.cells #[.int .i64 t.kind, .int .i64 t.at_, .int .i64 t.cycle, .int .i64 t.rep, .int .i64 t.msg, .int .i64 t.til] 36)) w1.heap.size #[.int .i64 t.kind, .int .i64 t.at_, .int .i64 t.cycle, .int .i64 t.rep, .int .i64 t.msg, .int .i64 t.til]) := RowT.new _ w1 _
        have HD2 : Hid (d ++ [t] = (m.windows.take (k + 1)).filterMap (Yq.trig m who)) := HW1.out.symm
        clear hb1 HXv HOv HW1
        dsimp only [oV, tC]
        go_upto_region 7 with fail
        generalize w1.alloc (.cells #[.int .i64 t.kind, .int .i64 t.at_, .int .i64 t.cycle, .int .i64 t.rep, .int .i64 t.msg, .int .i64 t.til] 36) = v2 at HX2 HO2 HV2 ⊢
        generalize w1.heap.size = q2 at HV2 ⊢
        obtain rfl := HN.out
        have HO5 : Hid (∀ ob, Sg.OL 36 6 W.heap.size (v2.alloc ob) s c d.length (d.flatMap tC)) := fun ob => HO2.out.on ((Below.refl _ _).alloc (Nat.le_refl _) _)
        have HXa : Hid (∀ ob, Bx W (v2.alloc ob) W.heap.size m a) := fun ob => HX2.out.on ((Below.refl _ _).alloc (Nat.le_refl _) _)
        have HSn : Hid (Src Tryd.prog 6 33 (.slice (some ⟨v2.heap.size, 0, none⟩) 1 1) 1 (tC t) (v2.alloc (.cells #[.int .i64 t.kind, .int .i64 t.at_, .int .i64 t.cycle, .int .i64 t.rep, .int .i64 t.msg, .int .i64 t.til] 36))) := Sg.src_new Tryd.underlying33 v2 36 6 1 _ rfl (tC_one t)
        have q0 := HV2.out.c 0 _ rfl
        have q1 := HV2.out.c 1 _ rfl
        have q2 := HV2.out.c 2 _ rfl
        have q3 := HV2.out.c 3 _ rfl
        have q4 := HV2.out.c 4 _ rfl
        have q5 := HV2.out.c 5 _ rfl
        clear HN HV2 HX2 HO2
        go_wp2_with (refine Sg.wpList_appendO elT rfl (.tmp 26) (.tmp 28) 33 rfl rfl rfl (HO5.out _) (HXa.out _).below.size HSn.out (show d.length + 1 ≤ 1000000 by omega) ?_; intro s2 c2 n2 u2 hn2 h2 hk2; have HXu : Hid (Bx W u2 W.heap.size m a) := Yl.bx HOr.out (HXa.out _) (HO5.out _) hk2; have hOu : Sg.OL 36 6 W.heap.size u2 s2 c2 n2 ((d ++ [t]).flatMap tC) := (by rw [List.flatMap_append]; simpa using h2); have HOu : Hid (Sg.OL 36 6 W.heap.size u2 s2 c2 n2 ((d ++ [t]).flatMap tC)) := hOu; clear hOu; have HNu : Hid (n2 = (d ++ [t]).length) := (by show _ = _; rw [hn2, List.length_append]; rfl); clear hn2 h2 hk2 HO5 HXa HSn q0 q1 q2 q3 q4 q5)
        go_roundw
        case rel => exact ⟨k + 1, s2, c2, n2, d ++ [t], by omega, rfl, rfl, HNu, HD2, HOu, HXu⟩
        case measure => simp only [intOf]; omega
    · obtain rfl : k = m.windows.length := by omega
      have kn : ¬ ((m.windows.length : Int) < (m.windows.length : Int)) := by omega
      have HD1 : Hid (d = m.windows.filterMap (Yq.trig m who)) := by show _ = _; have := HD.out; rwa [List.take_length] at this
      have hdl : d.length ≤ 16 := by have h1 := Yq.fm_len m who m.windows.length; rw [← HD.out] at h1; omega
      clear HD HWi
      obtain ⟨y0, y1, y2, y3, y4, y5, y6, y7, y8, y9, y10⟩ := HX.out.row.mat
      go_wp2_with fail
      refine (HRk.out _ HX.out).mono ?_
      rintro e w1 ⟨rfl, hb⟩
      replace HX : Hid (Bx W w1 W.heap.size m a) := HX.out.on hb
      replace HO : Hid (Sg.OL 36 6 W.heap.size w1 s c n (d.flatMap tC)) := HO.out.on hb
      clear hb HRk y0 y1 y2 y3 y4 y5 y6 y7 y8 y9 y10
      have HBk : Hid (Yq.back m who = if 0 ≤ Mx.rank m who then [⟨4, m.length, 0, 1, 0, 0⟩, ⟨4, Yq.beat m (Mx.rank m who), 0, 1, 1, 0⟩] else []) := rfl
      generalize Mx.rank m who = r at HBk HRb ⊢
      have HDf : Hid (∀ L, Yq.back m who = L → V = (d ++ L) ++ [⟨5, Yq.watch m, 0, 1, 0, 0⟩]) := fun L hL => by rw [HV.out, HD1.out, hL]
      clear HV HD1
      obtain rfl := HN.out
      clear HN
      by_cases hr : 0 ≤ r
      · have HDg : Hid (V = (d ++ [⟨4, m.length, 0, 1, 0, 0⟩, ⟨4, Yq.beat m r, 0, 1, 1, 0⟩]) ++ [⟨5, Yq.watch m, 0, 1, 0, 0⟩]) := HDf.out _ (by rw [HBk.out, if_pos hr])
        obtain ⟨b, hbt⟩ : ∃ b, Yq.beat m r = b := ⟨_, rfl⟩
        rw [hbt] at HDg
        have HBr : Hid (∀ w, Bx W w W.heap.size m a → Calls Tryd.prog 51 #[mV m a, .int .i64 r] w fun e w' => e = .returned (.int .i64 b) ∧ Below w.heap.size w w') := fun w h => hbt ▸ HBt.out w r h HRb.out
        clear HDf HBk HBt HRb hbt
        go_upto_region 11 with fail
        refine wp_region_held_drew (S := fun w' => RowT 27 w' W.heap.size (mCs m a)) (by kernel_rfl) (HX.out.on (Below.refl _ _).drew).row (fun hHeld => ?_)
        replace HX : Hid (Bx W w1.drew W.heap.size m a) := HX.out.on (Below.refl _ _).drew
        replace HO : Hid (Sg.OL 36 6 W.heap.size w1.drew s c d.length (d.flatMap tC)) := HO.out.on (Below.refl _ _).drew
        generalize w1.drew = v1 at HX HO hHeld ⊢
        refine Hl.takeL (i := 0) (d := 36) (v := ?_) rfl (by kernel_rfl) (by kernel_rfl) (by kernel_rfl) (fun _ _ _ h => h) (by rfl) ?_ (by first | assumption | trivial) ?_
        rotate_left
        · intro w hSw; skip; go_simp; (try with_reducible rfl)
        simp only [Act.put, List.setIfInBounds_toArray, List.set_cons_zero, List.set_cons_succ]
        refine Hl.takeL (i := 1) (d := 37) (v := ?_) rfl (by kernel_rfl) (by kernel_rfl) (by kernel_rfl) (fun _ _ _ h => h) (by rfl) ?_ (by first | assumption | trivial) ?_
        rotate_left
        · intro w hSw; skip; go_simp; (try with_reducible rfl)
        simp only [Act.put, List.setIfInBounds_toArray, List.set_cons_zero, List.set_cons_succ]
        refine Hl.takeL (i := 2) (d := 38) (v := ?_) rfl (by kernel_rfl) (by kernel_rfl) (by kernel_rfl) (fun _ _ _ h => h) (by rfl) ?_ (by first | assumption | trivial) ?_
        rotate_left
        · intro w hSw; obtain ⟨y0, y1, y2, y3, y4, y5, y6, y7, y8, y9, y10⟩ := hSw.mat; go_simp; (try with_reducible rfl)
        simp only [Act.put, List.setIfInBounds_toArray, List.set_cons_zero, List.set_cons_succ]
        refine Hl.takeL (i := 4) (d := 40) (v := ?_) rfl (by kernel_rfl) (by kernel_rfl) (by kernel_rfl) (fun _ _ _ h => h) (by rfl) ?_ (by first | assumption | trivial) ?_
        rotate_left
        · intro w hSw; obtain ⟨y0, y1, y2, y3, y4, y5, y6, y7, y8, y9, y10⟩ := hSw.mat; go_simp; (try with_reducible rfl)
        simp only [Act.put, List.setIfInBounds_toArray, List.set_cons_zero, List.set_cons_succ]
        refine Hl.takeL (i := 5) (d := 41) (v := ?_) rfl (by kernel_rfl) (by kernel_rfl) (by kernel_rfl) (fun _ _ _ h => h) (by rfl) ?_ (by first | assumption | trivial) ?_
        rotate_left
        · intro w hSw; skip; go_simp; (try with_reducible rfl)
        simp only [Act.put, List.setIfInBounds_toArray, List.set_cons_zero, List.set_cons_succ]
        refine Hl.consL (i := 3) rfl (by kernel_rfl) (fun K' hK' => ?_)
        go_simp
        refine (HEv.out _ 4 m.length 0).mono ?_
        rintro e v2 ⟨rfl, hb⟩
        replace HX : Hid (Bx W v2 W.heap.size m a) := HX.out.on hb
        replace HO : Hid (Sg.OL 36 6 W.heap.size v2 s c d.length (d.flatMap tC)) := HO.out.on hb
        clear hb hHeld
        try go_wp2_with fail
        refine hK'.out _ _ HX.out.row (fun hHeld => ?_)
        clear hK' K'
        refine Hl.consL (i := 6) rfl (by kernel_rfl) (fun K' hK' => ?_)
        go_simp
        refine (HBr.out _ HX.out).mono ?_
        rintro e v3 ⟨rfl, hb⟩
        replace HX : Hid (Bx W v3 W.heap.size m a) := HX.out.on hb
        replace HO : Hid (Sg.OL 36 6 W.heap.size v3 s c d.length (d.flatMap tC)) := HO.out.on hb
        clear hb hHeld HBr
        try go_wp2_with fail
        refine hK'.out _ _ HX.out.row (fun hHeld => ?_)
        clear hK' K'
        refine Hl.consL (i := 7) rfl (by kernel_rfl) (fun K' hK' => ?_)
        go_simp
        refine (HEv.out _ 4 b 1).mono ?_
        rintro e v4 ⟨rfl, hb⟩
        replace HX : Hid (Bx W v4 W.heap.size m a) := HX.out.on hb
        replace HO : Hid (Sg.OL 36 6 W.heap.size v4 s c d.length (d.flatMap tC)) := HO.out.on hb
        clear hb hHeld
        try go_wp2_with fail
        refine hK'.out _ _ HX.out.row (fun hHeld => ?_)
        clear hK' K'
        refine Hl.consL (i := 8) rfl (by kernel_rfl) (fun K' hK' => ?_)
        have hb8 : Below v4.heap.size v4 (v4.alloc (.cells #[.int .i64 4, .int .i64 m.length, .int .i64 0, .int .i64 1, .int .i64 0, .int .i64 0, .int .i64 4, .int .i64 b, .int .i64 0, .int .i64 1, .int .i64 1, .int .i64 0] 36)) := (Below.refl _ _).alloc (Nat.le_refl _) _
        have HX8 : Hid (Bx W (v4.alloc (.cells #[.int .i64 4, .int .i64 m.length, .int .i64 0, .int .i64 1, .int .i64 0, .int .i64 0, .int .i64 4, .int .i64 b, .int .i64 0, .int .i64 1, .int .i64 1, .int .i64 0] 36)) W.heap.size m a) := HX.out.on hb8
        have HO8 : Hid (Sg.OL 36 6 W.heap.size (v4.alloc (.cells #[.int .i64 4, .int .i64 m.length, .int .i64 0, .int .i64 1, .int .i64 0, .int .i64 0, .int .i64 4, .int .i64 b, .int .i64 0, .int .i64 1, .int .i64 1, .int .i64 0] 36)) s c d.length (d.flatMap tC)) := HO.out.on hb8
        have HS8 : Hid (Src Tryd.prog 6 33 (.slice (some ⟨v4.heap.size, 0, none⟩) 2 2) 2 (([⟨4, m.length, 0, 1, 0, 0⟩, ⟨4, b, 0, 1, 1, 0⟩] : List Yq.Tr).flatMap tC) (v4.alloc (.cells #[.int .i64 4, .int .i64 m.length, .int .i64 0, .int .i64 1, .int .i64 0, .int .i64 0, .int .i64 4, .int .i64 b, .int .i64 0, .int .i64 1, .int .i64 1, .int .i64 0] 36))) := Sg.src_new Tryd.underlying33 v4 36 6 2 _ rfl (tC_flat _)
        clear hb8 HX HO hHeld
        go_simp
        refine hK'.out _ _ HX8.out.row (fun hHeld => ?_)
        clear hK' K'
        generalize v4.alloc (.cells #[.int .i64 4, .int .i64 m.length, .int .i64 0, .int .i64 1, .int .i64 0, .int .i64 0, .int .i64 4, .int .i64 b, .int .i64 0, .int .i64 1, .int .i64 1, .int .i64 0] 36) = v5 at HX8 HO8 HS8 hHeld ⊢
        generalize v4.heap.size = q4 at HS8 ⊢
        refine Hl.consL (i := 9) rfl (by kernel_rfl) (fun K' hK' => ?_)
        refine Sg.step_appendO elT rfl (.tmp 36) (.tmp 44) 33 rfl rfl rfl HO8.out HX8.out.below.size HS8.out (show d.length + 2 ≤ 1000000 by omega) ?_
        intro s2 c2 n2 u2 hn2 h2 hk2
        have HXu : Hid (Bx W u2 W.heap.size m a) := Yl.bx HOr.out HX8.out HO8.out hk2
        have HOu : Hid (Sg.OL 36 6 W.heap.size u2 s2 c2 n2 ((d ++ ([⟨4, m.length, 0, 1, 0, 0⟩, ⟨4, b, 0, 1, 1, 0⟩] : List Yq.Tr)).flatMap tC)) := by show Sg.OL _ _ _ _ _ _ _ _; rw [List.flatMap_append]; exact h2
        have HNu : Hid (n2 = (d ++ [(⟨4, m.length, 0, 1, 0, 0⟩ : Yq.Tr), ⟨4, b, 0, 1, 1, 0⟩]).length) := by show _ = _; rw [hn2, List.length_append]; rfl
        clear h2 hk2 hn2 hHeld HX8 HO8 HS8
        refine hK'.out _ _ HXu.out.row (fun hHeld => ?_)
        clear hK' K'
        simp only [Act.put, List.setIfInBounds_toArray, List.set_cons_zero, List.set_cons_succ]
        refine Hl.takeL (i := 10) (d := 5) (v := ?_) rfl (by kernel_rfl) (by kernel_rfl) (by kernel_rfl) (fun _ _ _ h => h) (by rfl) ?_ (by first | assumption | trivial) ?_
        rotate_left
        · intro w hSw; skip; go_simp; (try with_reducible rfl)
        simp only [Act.put, List.setIfInBounds_toArray, List.set_cons_zero, List.set_cons_succ]
        refine wpAnyH_done (by kernel_rfl) ?_ _
        clear hHeld
        have hdl2 : (d ++ [(⟨4, m.length, 0, 1, 0, 0⟩ : Yq.Tr), ⟨4, b, 0, 1, 1, 0⟩]).length ≤ 18 := by rw [List.length_append]; exact Nat.add_le_add_right hdl 2
        generalize d ++ [(⟨4, m.length, 0, 1, 0, 0⟩ : Yq.Tr), ⟨4, b, 0, 1, 1, 0⟩] = dd at HOu HNu HDg hdl2
        obtain rfl := HNu.out
        clear HNu
        obtain ⟨y0, y1, y2, y3, y4, y5, y6, y7, y8, y9, y10⟩ := HXu.out.row.mat
        go_wp2_with fail
        refine (HWt.out _ HXu.out).mono ?_
        rintro e w6 ⟨rfl, hb⟩
        replace HXu : Hid (Bx W w6 W.heap.size m a) := HXu.out.on hb
        replace HOu : Hid (Sg.OL 36 6 W.heap.size w6 s2 c2 dd.length (dd.flatMap tC)) := HOu.out.on hb
        clear hb HWt y0 y1 y2 y3 y4 y5 y6 y7 y8 y9 y10
        go_wp2_with fail
        refine (HEv.out _ 5 (Yq.watch m) 0).mono ?_
        rintro e w7 ⟨rfl, hb⟩
        replace HXu : Hid (Bx W w7 W.heap.size m a) := HXu.out.on hb
        replace HOu : Hid (Sg.OL 36 6 W.heap.size w7 s2 c2 dd.length (dd.flatMap tC)) := HOu.out.on hb
        clear hb HEv
        have HO5 : Hid (∀ ob, Sg.OL 36 6 W.heap.size (w7.alloc ob) s2 c2 dd.length (dd.flatMap tC)) := fun ob => HOu.out.on ((Below.refl _ _).alloc (Nat.le_refl _) _)
        have HXa : Hid (∀ ob, Bx W (w7.alloc ob) W.heap.size m a) := fun ob => HXu.out.on ((Below.refl _ _).alloc (Nat.le_refl _) _)
        have HSn : Hid (Src Tryd.prog 6 33 (.slice (some ⟨w7.heap.size, 0, none⟩) 1 1) 1 (tC ⟨5, Yq.watch m, 0, 1, 0, 0⟩) (w7.alloc (.cells #[.int .i64 5, .int .i64 (Yq.watch m), .int .i64 0, .int .i64 1, .int .i64 0, .int .i64 0] 36))) := Sg.src_new Tryd.underlying33 w7 36 6 1 _ rfl (tC_one _)
        clear HOu HXu
        go_wp2_with (refine Sg.wpList_appendO elT rfl (.tmp 46) (.tmp 50) 33 rfl rfl rfl (HO5.out _) (HXa.out _).below.size HSn.out (show dd.length + 1 ≤ 1000000 by omega) ?_; intro s3 c3 n3 u3 hn3 h3 hk3; have HBu : Hid (Below W.heap.size W u3) := (Yl.bx HOr.out (HXa.out _) (HO5.out _) hk3).below; have hOu : Sg.OL 36 6 W.heap.size u3 s3 c3 n3 ((dd ++ [(⟨5, Yq.watch m, 0, 1, 0, 0⟩ : Yq.Tr)]).flatMap tC) := (by rw [List.flatMap_append]; simpa using h3); have HOz : Hid (Sg.OL 36 6 W.heap.size u3 s3 c3 n3 ((dd ++ [(⟨5, Yq.watch m, 0, 1, 0, 0⟩ : Yq.Tr)]).flatMap tC)) := hOu; clear hOu; have HNz : Hid (n3 = (dd ++ [(⟨5, Yq.watch m, 0, 1, 0, 0⟩ : Yq.Tr)]).length) := (by show _ = _; rw [hn3, List.length_append]; rfl); clear hn3 h3 hk3 HO5 HXa HSn)
        go_wp2
        go_ret
        exact ⟨s3, c3, n3, by rw [HDg.out]; exact HNz.out, rfl, by rw [HDg.out]; exact HOz.out.sl.li, HBu.out⟩
      · have HDg : Hid (V = d ++ [⟨5, Yq.watch m, 0, 1, 0, 0⟩]) := by show _ = _; rw [HDf.out _ (by rw [HBk.out, if_neg hr]), List.append_nil]
        clear HDf HBk HBt HRb
        have hdl2 : d.length ≤ 18 := by omega
        obtain ⟨dd, hdd⟩ : ∃ dd, d = dd := ⟨_, rfl⟩
        rw [hdd] at HO HDg hdl2 ⊢
        clear hdd hdl
        have HXu := HX
        have HOu := HO
        clear HX HO
        obtain ⟨s2, hs2⟩ : ∃ s2, s = s2 := ⟨_, rfl⟩
        obtain ⟨c2, hc2⟩ : ∃ c2, c = c2 := ⟨_, rfl⟩
        rw [hs2, hc2] at HOu ⊢
        clear hs2 hc2
        obtain ⟨u2, hu2⟩ : ∃ u2, w1 = u2 := ⟨_, rfl⟩
        rw [hu2] at HOu HXu ⊢
        clear hu2
        obtain ⟨y0, y1, y2, y3, y4, y5, y6, y7, y8, y9, y10⟩ := HXu.out.row.mat
        go_wp2_with fail
        refine (HWt.out _ HXu.out).mono ?_
        rintro e w6 ⟨rfl, hb⟩
        replace HXu : Hid (Bx W w6 W.heap.size m a) := HXu.out.on hb
        replace HOu : Hid (Sg.OL 36 6 W.heap.size w6 s2 c2 dd.length (dd.flatMap tC)) := HOu.out.on hb
        clear hb HWt y0 y1 y2 y3 y4 y5 y6 y7 y8 y9 y10
        go_wp2_with fail
        refine (HEv.out _ 5 (Yq.watch m) 0).mono ?_
        rintro e w7 ⟨rfl, hb⟩
        replace HXu : Hid (Bx W w7 W.heap.size m a) := HXu.out.on hb
        replace HOu : Hid (Sg.OL 36 6 W.heap.size w7 s2 c2 dd.length (dd.flatMap tC)) := HOu.out.on hb
        clear hb HEv
        have HO5 : Hid (∀ ob, Sg.OL 36 6 W.heap.size (w7.alloc ob) s2 c2 dd.length (dd.flatMap tC)) := fun ob => HOu.out.on ((Below.refl _ _).alloc (Nat.le_refl _) _)
        have HXa : Hid (∀ ob, Bx W (w7.alloc ob) W.heap.size m a) := fun ob => HXu.out.on ((Below.refl _ _).alloc (Nat.le_refl _) _)
        have HSn : Hid (Src Tryd.prog 6 33 (.slice (some ⟨w7.heap.size, 0, none⟩) 1 1) 1 (tC ⟨5, Yq.watch m, 0, 1, 0, 0⟩) (w7.alloc (.cells #[.int .i64 5, .int .i64 (Yq.watch m), .int .i64 0, .int .i64 1, .int .i64 0, .int .i64 0] 36))) := Sg.src_new Tryd.underlying33 w7 36 6 1 _ rfl (tC_one _)
        clear HOu HXu
        go_wp2_with (refine Sg.wpList_appendO elT rfl (.tmp 46) (.tmp 50) 33 rfl rfl rfl (HO5.out _) (HXa.out _).below.size HSn.out (show dd.length + 1 ≤ 1000000 by omega) ?_; intro s3 c3 n3 u3 hn3 h3 hk3; have HBu : Hid (Below W.heap.size W u3) := (Yl.bx HOr.out (HXa.out _) (HO5.out _) hk3).below; have hOu : Sg.OL 36 6 W.heap.size u3 s3 c3 n3 ((dd ++ [(⟨5, Yq.watch m, 0, 1, 0, 0⟩ : Yq.Tr)]).flatMap tC) := (by rw [List.flatMap_append]; simpa using h3); have HOz : Hid (Sg.OL 36 6 W.heap.size u3 s3 c3 n3 ((dd ++ [(⟨5, Yq.watch m, 0, 1, 0, 0⟩ : Yq.Tr)]).flatMap tC)) := hOu; clear hOu; have HNz : Hid (n3 = (dd ++ [(⟨5, Yq.watch m, 0, 1, 0, 0⟩ : Yq.Tr)]).length) := (by show _ = _; rw [hn3, List.length_append]; rfl); clear hn3 h3 hk3 HO5 HXa HSn)
        go_wp2
        go_ret
        exact ⟨s3, c3, n3, by rw [HDg.out]; exact HNz.out, rfl, by rw [HDg.out]; exact HOz.out.sl.li, HBu.out⟩
end Go.Proofs.YtnbfnipdiffphaaDoor
/- Package plan, over the landed code: triggers sorted. -/
namespace Go.Proofs.YtnbfnipdiffphaaDoor
open Go.RowKit Go.WideShapes
set_option linter.unusedVariables false
theorem Ym.ne {s s2 : Option Addr} {c c2 q k : Nat} (h : ∀ g, Sg.At_ s c g → g < q) (hq : q < k) (ha : ∀ g, Sg.At_ s2 c2 g → Sg.At_ s c g ∨ k ≤ g) : ∀ g, Sg.At_ s2 c2 g → g ≠ q := fun g hg e => by
  subst e
  rcases ha g hg with h1 | h1
  · have := h g h1; omega
  · omega
theorem Yq.lay_end {l : List Yq.Tr} {t : Yq.Tr} (h : ∀ (j : Nat) x, j < l.length → l[j]? = some x → Yq.le t x = true) : Yq.lay l t = l ++ [t] := by
  obtain ⟨e1, e2⟩ := lay_at (t := t) (l := l) (k := l.length) (Nat.le_refl _) h (fun x hx => by have := (List.getElem?_eq_some_iff.1 hx).1; omega)
  unfold Yq.lay
  rw [e1, e2, List.take_length, List.drop_length]
theorem Yq.lay_mid {l : List Yq.Tr} {t x : Yq.Tr} {k : Nat} (hx : l[k]? = some x) (h : ∀ (j : Nat) y, j < k → l[j]? = some y → Yq.le t y = true) (hn : Yq.le t x = false) : Yq.lay l t = l.take k ++ t :: l.drop k := by
  obtain ⟨e1, e2⟩ := lay_at (t := t) (l := l) (k := k) (Nat.le_of_lt (List.getElem?_eq_some_iff.1 hx).1) h (fun y hy => by rw [hx] at hy; injection hy with hy; rw [← hy]; exact hn)
  unfold Yq.lay
  rw [e1, e2]
theorem Yq.sort_step {l : List Yq.Tr} {k : Nat} {t : Yq.Tr} (hx : l[k]? = some t) : (l.take (k + 1)).foldl Yq.lay [] = Yq.lay ((l.take k).foldl Yq.lay []) t := by
  rw [List.take_add_one, hx, List.foldl_append]
  rfl
theorem Yq.sort_len : ∀ (l d : List Yq.Tr), (l.foldl Yq.lay d).length = d.length + l.length
  | [], d => rfl
  | t :: l, d => by rw [List.foldl_cons, Yq.sort_len l, Yq.len_lay, List.length_cons]; omega
set_option maxRecDepth 100000 in
set_option maxHeartbeats 4000000 in
theorem pk_sortedN (W : World) (l : List Yq.Tr) (s : Option Addr) (c : Nat) (h : LI W s c l.length (l.flatMap tC)) (hl : l.length ≤ 1000) : TellsN Tryd.prog 33 #[.slice s l.length c] W (l.foldl Yq.lay []) := by
  have HG : Hid (∀ i, i < l.length → ∃ t, l[i]? = some t) := fun i hi => ⟨_, List.getElem?_eq_getElem hi⟩
  have HEl : Hid (∀ i t, l[i]? = some t → ∃ g o, s = some ⟨g, o, none⟩ ∧ ∀ w', Below W.heap.size W w' → w'.cell? ⟨g, o + i * 6, none⟩ = some (.int .i64 t.kind) ∧ w'.cell? ⟨g, o + i * 6 + 1, none⟩ = some (.int .i64 t.at_) ∧ w'.cell? ⟨g, o + i * 6 + 2, none⟩ = some (.int .i64 t.cycle) ∧ w'.cell? ⟨g, o + i * 6 + 3, none⟩ = some (.int .i64 t.rep) ∧ w'.cell? ⟨g, o + i * 6 + 4, none⟩ = some (.int .i64 t.msg) ∧ w'.cell? ⟨g, o + i * 6 + 5, none⟩ = some (.int .i64 t.til)) := fun i t ht => h.trig ht
  have HLe : Hid (∀ k, k ≤ l.length → ((l.take k).foldl Yq.lay []).length = k) := fun k hk => by
    rw [Yq.sort_len, List.length_take]
    simp
    omega
  have HSt : Hid (∀ (k : Nat) (t : Yq.Tr), l[k]? = some t → (l.take (k + 1)).foldl Yq.lay [] = Yq.lay ((l.take k).foldl Yq.lay []) t) := fun k t h => Yq.sort_step h
  have HEnd : Hid ((l.take l.length).foldl Yq.lay [] = l.foldl Yq.lay []) := by show _ = _; rw [List.take_length]
  unfold TellsN
  clear h
  generalize l.foldl Yq.lay [] = V at HEnd ⊢
  generalize l.length = n at HG HEnd HLe hl ⊢
  go_enter Tryd.func33, Tryd.ntmps33
  go_wp2_with fail
  go_step3
  go_wp2_with fail
  go_step3
  go_wp2_with fail
  go_loopw [3, 10] (fun vo vi wr => ∃ (k : Nat) (s' : Option Addr) (c' n' : Nat) (d : List Yq.Tr), k ≤ n ∧ vi = .int .i64 (k : Int) ∧ vo = .slice s' n' c' ∧ Hid (n' = d.length) ∧ Hid (d = (l.take k).foldl Yq.lay []) ∧ Hid (Sg.OL 36 6 W.heap.size wr s' c' n' (d.flatMap tC)) ∧ Hid (Below W.heap.size W wr)) (fun _ vi _ => n - (intOf vi).toNat)
  case atStart => exact ⟨0, none, 0, 0, [], Nat.zero_le _, rfl, rfl, rfl, rfl, Sg.OL.nil _ _ _ _, Below.refl _ _⟩
  case round =>
    obtain ⟨k, s', c', n', d, hk, rfl, rfl, HN, HD, HO, HB⟩ := hrel
    by_cases hlt : k < n
    · obtain ⟨t, ht⟩ := HG.out k hlt
      obtain ⟨g, o, rfl, hc⟩ := HEl.out k t ht
      have HLy : Hid ((l.take (k + 1)).foldl Yq.lay [] = Yq.lay d t) := by show _ = _; rw [HSt.out k t ht, ← HD.out]
      have hdl : d.length ≤ 1000 := by rw [HD.out, HLe.out k hk]; omega
      obtain ⟨e0, e1, e2, e3, e4, e5⟩ := hc wr HB.out
      have kI : (k : Int) < (n : Int) := by omega
      have hb1 : Below wr.heap.size wr (wr.alloc (.cells #[.int .i64 t.kind, .int .i64 t.at_, .int .i64 t.cycle, .int .i64 t.rep, .int .i64 t.msg, .int .i64 t.til] 36)) := (Below.refl _ _).alloc (Nat.le_refl _) _
      have HR : Hid (RowT 36 (wr.alloc (.cells #[.int .i64 t.kind, .int .i64 t.at_, .int .i64 t.cycle, .int .i64 t.rep, .int .i64 t.msg, .int .i64 t.til] 36)) wr.heap.size #[.int .i64 t.kind, .int .i64 t.at_, .int .i64 t.cycle, .int .i64 t.rep, .int .i64 t.msg, .int .i64 t.til]) := RowT.new _ wr _
      have HLt : Hid (∀ g, Sg.At_ s' c' g → g < wr.heap.size) := fun g hg => HO.out.lt g hg
      replace HO : Hid (Sg.OL 36 6 W.heap.size (wr.alloc (.cells #[.int .i64 t.kind, .int .i64 t.at_, .int .i64 t.cycle, .int .i64 t.rep, .int .i64 t.msg, .int .i64 t.til] 36)) s' c' n' (d.flatMap tC)) := HO.out.on hb1
      replace HB : Hid (Below W.heap.size W (wr.alloc (.cells #[.int .i64 t.kind, .int .i64 t.at_, .int .i64 t.cycle, .int .i64 t.rep, .int .i64 t.msg, .int .i64 t.til] 36))) := HB.out.trans (hb1.mono HB.out.size)
      clear hb1 HD hc ht HEl HG HSt HLe HEnd
      go_upto_region 5 with fail
      clear e0 e1 e2 e3 e4 e5
      generalize wr.alloc (.cells #[.int .i64 t.kind, .int .i64 t.at_, .int .i64 t.cycle, .int .i64 t.rep, .int .i64 t.msg, .int .i64 t.til] 36) = v at HR HB HO ⊢
      generalize wr.heap.size = q at HR HLt ⊢
      obtain rfl := HN.out
      clear HN
      go_wp2_with fail
      go_loopw [3, 16] (fun vo vj wr => ∃ j : Nat, j ≤ d.length ∧ vj = .int .i64 (j : Int) ∧ vo = .slice s' d.length c' ∧ Hid (RowT 36 wr q #[.int .i64 t.kind, .int .i64 t.at_, .int .i64 t.cycle, .int .i64 t.rep, .int .i64 t.msg, .int .i64 t.til]) ∧ Hid (Sg.OL 36 6 W.heap.size wr s' c' d.length (d.flatMap tC)) ∧ Hid (Below W.heap.size W wr) ∧ Hid (∀ (i : Nat) y, i < j → d[i]? = some y → Yq.le t y = true)) (fun _ vj _ => d.length - (intOf vj).toNat)
      case atStart => exact ⟨0, Nat.zero_le _, rfl, rfl, HR, HO, HB, fun i y hi => absurd hi (Nat.not_lt_zero _)⟩
      case round =>
        clear HR HO HB
        obtain ⟨j, hj, rfl, rfl, HR, HO, HB, HF⟩ := hrel
        by_cases hjl : j < d.length
        · obtain ⟨x, hx⟩ : ∃ x, d[j]? = some x := ⟨_, List.getElem?_eq_getElem hjl⟩
          obtain ⟨g2, o2, cur, rfl, _, _⟩ := HO.out.ty (by have := HO.out.sl.1; omega)
          have hcx := HO.out.sl.li.trig hx
          obtain ⟨g3, o3, e3, hcx⟩ := hcx
          injection e3 with e3
          injection e3 with e3 e4
          subst e3 e4
          obtain ⟨e0, e1, e2, e3, e4, e5⟩ := hcx wr (Below.refl _ _)
          have HX : Hid (d[j]? = some x) := hx
          have jI : (j : Int) < (d.length : Int) := by omega
          have jb : (j : Int) < 1000 := by omega
          have hb1 : Below wr.heap.size wr (wr.alloc (.cells #[.int .i64 x.kind, .int .i64 x.at_, .int .i64 x.cycle, .int .i64 x.rep, .int .i64 x.msg, .int .i64 x.til] 36)) := (Below.refl _ _).alloc (Nat.le_refl _) _
          have HR7 : Hid (RowT 36 (wr.alloc (.cells #[.int .i64 x.kind, .int .i64 x.at_, .int .i64 x.cycle, .int .i64 x.rep, .int .i64 x.msg, .int .i64 x.til] 36)) wr.heap.size #[.int .i64 x.kind, .int .i64 x.at_, .int .i64 x.cycle, .int .i64 x.rep, .int .i64 x.msg, .int .i64 x.til]) := RowT.new _ wr _
          replace HR : Hid (RowT 36 (wr.alloc (.cells #[.int .i64 x.kind, .int .i64 x.at_, .int .i64 x.cycle, .int .i64 x.rep, .int .i64 x.msg, .int .i64 x.til] 36)) q #[.int .i64 t.kind, .int .i64 t.at_, .int .i64 t.cycle, .int .i64 t.rep, .int .i64 t.msg, .int .i64 t.til]) := HR.out.on hb1
          replace HO : Hid (Sg.OL 36 6 W.heap.size (wr.alloc (.cells #[.int .i64 x.kind, .int .i64 x.at_, .int .i64 x.cycle, .int .i64 x.rep, .int .i64 x.msg, .int .i64 x.til] 36)) (some ⟨g2, o2, none⟩) c' d.length (d.flatMap tC)) := HO.out.on hb1
          replace HB : Hid (Below W.heap.size W (wr.alloc (.cells #[.int .i64 x.kind, .int .i64 x.at_, .int .i64 x.cycle, .int .i64 x.rep, .int .i64 x.msg, .int .i64 x.til] 36))) := HB.out.trans (hb1.mono HB.out.size)
          clear hb1 hcx hx
          go_upto_region 8 with fail
          clear e0 e1 e2 e3 e4 e5
          generalize wr.alloc (.cells #[.int .i64 x.kind, .int .i64 x.at_, .int .i64 x.cycle, .int .i64 x.rep, .int .i64 x.msg, .int .i64 x.til] 36) = v8 at HR7 HR HO HB ⊢
          generalize wr.heap.size = q7 at HR7 ⊢
          have x1 := HR7.out.c 1 _ rfl
          have t1 := HR.out.c 1 _ rfl
          clear HR7
          by_cases hgt : t.at_ < x.at_
          · have HLd : Hid (Yq.lay d t = d.take j ++ t :: d.drop j) := Yq.lay_mid HX.out HF.out (decide_eq_false (by omega))
            have hgd : decide (t.at_ < x.at_) = true := decide_eq_true hgt
            clear HF
            go_upto_region 9 with fail
            clear x1 t1 hgt hgd
            obtain ⟨s', hs'⟩ : ∃ s', some (⟨g2, o2, none⟩ : Addr) = s' := ⟨_, rfl⟩
            rw [hs'] at HO HLt ⊢
            clear hs'
            have HO5 : Hid (∀ ob, Sg.OL 36 6 W.heap.size (v8.alloc ob) s' c' d.length (d.flatMap tC)) := fun ob => HO.out.on ((Below.refl _ _).alloc (Nat.le_refl _) _)
            have HBa : Hid (∀ ob, Below W.heap.size W (v8.alloc ob)) := fun ob => HB.out.alloc HB.out.size _
            have HRa : Hid (∀ ob, RowT 36 (v8.alloc ob) q #[.int .i64 t.kind, .int .i64 t.at_, .int .i64 t.cycle, .int .i64 t.rep, .int .i64 t.msg, .int .i64 t.til]) := fun ob => HR.out.on ((Below.refl _ _).alloc (Nat.le_refl _) _)
            have HSn : Hid (Src Tryd.prog 6 33 (.slice (some ⟨v8.heap.size, 0, none⟩) 1 1) 1 (tC t) (v8.alloc (.cells #[.int .i64 t.kind, .int .i64 t.at_, .int .i64 t.cycle, .int .i64 t.rep, .int .i64 t.msg, .int .i64 t.til] 36))) := Sg.src_new Tryd.underlying33 v8 36 6 1 _ rfl (tC_one t)
            have q0 := HR.out.c 0 _ rfl
            have q1 := HR.out.c 1 _ rfl
            have q2 := HR.out.c 2 _ rfl
            have q3 := HR.out.c 3 _ rfl
            have q4 := HR.out.c 4 _ rfl
            have q5 := HR.out.c 5 _ rfl
            have HQ : Hid (q < (v8.alloc (.cells #[.int .i64 t.kind, .int .i64 t.at_, .int .i64 t.cycle, .int .i64 t.rep, .int .i64 t.msg, .int .i64 t.til] 36)).heap.size) := Nat.lt_of_lt_of_le HR.out.lt (by simp)
            clear HR HO HB
            go_wp2_with (refine Sg.wpList_append2 elT rfl (.tmp 26) (.tmp 28) 33 rfl rfl rfl (HO5.out _) (HBa.out _).size HSn.out (show d.length + 1 ≤ 1000000 by omega) ?_; intro s2 c2 n2 u2 hn2 h2 hk2 ha2; have HBu : Hid (Below W.heap.size W u2) := (HBa.out _).trans ((HO5.out _).below hk2 (HBa.out _).size); have hOu : Sg.OL 36 6 W.heap.size u2 s2 c2 n2 ((d ++ [t]).flatMap tC) := (by rw [List.flatMap_append]; simpa using h2); have HOu : Hid (Sg.OL 36 6 W.heap.size u2 s2 c2 n2 ((d ++ [t]).flatMap tC)) := hOu; clear hOu; have HNu : Hid (n2 = d.length + 1) := hn2; have HRu : Hid (RowT 36 u2 q #[.int .i64 t.kind, .int .i64 t.at_, .int .i64 t.cycle, .int .i64 t.rep, .int .i64 t.msg, .int .i64 t.til]) := (HRa.out _).kept hk2 (fun hg => Nat.lt_irrefl _ (HLt.out _ hg)); have HLu : Hid (∀ g, Sg.At_ s2 c2 g → g ≠ q) := Ym.ne HLt.out HQ.out ha2; clear hn2 h2 hk2 ha2 HO5 HBa HSn HRa q0 q1 q2 q3 q4 q5)
            obtain ⟨g3, o3, cur3, rfl, _, _⟩ := HOu.out.ty (by have := HOu.out.sl.1; have := HNu.out; omega)
            have hc0 : 0 < c2 := by have := HOu.out.sl.1; have := HNu.out; omega
            obtain rfl := HNu.out
            clear HNu HLt
            have hbk : ∀ W, (Instr.sliceAt 33 (.slice (some ⟨g3, o3, none⟩) (d.length + 1) c2) (some (.int .i64 (j : Int))) none none).run Tryd.prog W = .ok (.slice (Sg.backAt (some ⟨g3, o3, none⟩) c2 j 6) (d.length + 1 - j) (c2 - j)) W := fun W => Sg.run_back Tryd.underlying33 tinfo15 _ _ _ j (by omega) W
            have hbk2 : ∀ W, (Instr.sliceAt 33 (.slice (some ⟨g3, o3, none⟩) (d.length + 1) c2) (some (.int .i64 ((j : Int) + 1))) none none).run Tryd.prog W = .ok (.slice (Sg.backAt (some ⟨g3, o3, none⟩) c2 (j + 1) 6) (d.length + 1 - (j + 1)) (c2 - (j + 1))) W := fun W => Sg.run_back Tryd.underlying33 tinfo15 _ _ _ (j + 1) (by omega) W
            have hwj : IntKind.i64.wrap ((j : Int) + 1) = (j : Int) + 1 := by rw [IntKind.wrap_i64]; omega
            go_upto_region 10 with fail
            refine wp_region_held_drew (S := fun _ => True) (by kernel_rfl) trivial (fun hHeld => ?_)
            replace HOu : Hid (Sg.OL 36 6 W.heap.size u2.drew (some ⟨g3, o3, none⟩) c2 (d.length + 1) ((d ++ [t]).flatMap tC)) := HOu.out.on (Below.refl _ _).drew
            replace HBu : Hid (Below W.heap.size W u2.drew) := HBu.out.drew
            replace HRu : Hid (RowT 36 u2.drew q #[.int .i64 t.kind, .int .i64 t.at_, .int .i64 t.cycle, .int .i64 t.rep, .int .i64 t.msg, .int .i64 t.til]) := HRu.out.on (Below.refl _ _).drew
            generalize u2.drew = u3 at HOu HBu HRu hHeld ⊢
            refine Hl.takeL (i := 0) (d := 30) (v := ?_) rfl (by kernel_rfl) (by kernel_rfl) (by kernel_rfl) (fun _ _ _ h => h) (by rfl) ?_ (by first | assumption | trivial) ?_
            rotate_left
            · intro w hSw; skip; go_simp; (try with_reducible rfl)
            simp only [Act.put, List.setIfInBounds_toArray, List.set_cons_zero, List.set_cons_succ]
            refine Hl.takeL (i := 1) (d := 31) (v := ?_) rfl (by kernel_rfl) (by kernel_rfl) (by kernel_rfl) (fun _ _ _ h => h) (by rfl) ?_ (by first | assumption | trivial) ?_
            rotate_left
            · intro w hSw; skip; go_simp; (try with_reducible rfl)
            simp only [Act.put, List.setIfInBounds_toArray, List.set_cons_zero, List.set_cons_succ]
            refine Hl.takeL (i := 2) (d := 32) (v := ?_) rfl (by kernel_rfl) (by kernel_rfl) (by kernel_rfl) (fun _ _ _ h => h) (by rfl) ?_ (by first | assumption | trivial) ?_
            rotate_left
            · intro w hSw; skip; go_simp; (try with_reducible rfl)
            simp only [Act.put, List.setIfInBounds_toArray, List.set_cons_zero, List.set_cons_succ]
            refine Hl.takeL (i := 3) (d := 33) (v := ?_) rfl (by kernel_rfl) (by kernel_rfl) (by kernel_rfl) (fun _ _ _ h => h) (by rfl) ?_ (by first | assumption | trivial) ?_
            rotate_left
            · intro w hSw; skip; go_simp; (try with_reducible rfl)
            simp only [Act.put, List.setIfInBounds_toArray, List.set_cons_zero, List.set_cons_succ]
            refine Hl.takeL (i := 4) (d := 34) (v := ?_) rfl (by kernel_rfl) (by kernel_rfl) (by kernel_rfl) (fun _ _ _ h => h) (by rfl) ?_ (by first | assumption | trivial) ?_
            rotate_left
            · intro w hSw; skip; go_simp; (try with_reducible rfl)
            simp only [Act.put, List.setIfInBounds_toArray, List.set_cons_zero, List.set_cons_succ]
            refine Hl.takeL (i := 5) (d := 35) (v := ?_) rfl (by kernel_rfl) (by kernel_rfl) (by kernel_rfl) (fun _ _ _ h => h) (by rfl) ?_ (by first | assumption | trivial) ?_
            rotate_left
            · intro w hSw; skip; go_simp; (try with_reducible rfl)
            simp only [Act.put, List.setIfInBounds_toArray, List.set_cons_zero, List.set_cons_succ]
            refine Hl.takeL (i := 6) (d := 36) (v := ?_) rfl (by kernel_rfl) (by kernel_rfl) (by kernel_rfl) (fun _ _ _ h => h) (by rfl) ?_ (by first | assumption | trivial) ?_
            rotate_left
            · intro w hSw; skip; go_simp; (try with_reducible rfl)
            simp only [Act.put, List.setIfInBounds_toArray, List.set_cons_zero, List.set_cons_succ]
            refine Hl.consL (i := 7) rfl (by kernel_rfl) (fun K' hK' => ?_)
            obtain ⟨hO4, hK4⟩ := Sg.OL.moved (f := tC) (sz := 6) (fun _ => rfl) HX.out rfl HOu.out
            refine Sg.step_copyOwn (k := j) (n := d.length + 1) elT rfl (.tmp 33) (.tmp 36) rfl (congrArg (fun z => Value.slice (Sg.backAt (some ⟨g3, o3, none⟩) c2 (j + 1) 6) z (c2 - (j + 1))) (show d.length - j = d.length + 1 - (j + 1) by omega)) rfl HOu.out (show j + 1 < d.length + 1 by omega) (tC_flat _) ?_
            have HO4 : Hid (Sg.OL 36 6 W.heap.size _ (some ⟨g3, o3, none⟩) c2 (d.length + 1) ((d.take j ++ x :: d.drop j).flatMap tC)) := hO4
            have HB4 : Hid (Below W.heap.size W _) := HBu.out.trans (HOu.out.below hK4 HBu.out.size)
            have HR4 : Hid (RowT 36 _ q #[.int .i64 t.kind, .int .i64 t.at_, .int .i64 t.cycle, .int .i64 t.rep, .int .i64 t.msg, .int .i64 t.til]) := HRu.out.kept hK4 (fun hg => HLu.out _ hg rfl)
            clear hO4 hK4 HOu HBu HRu hHeld
            refine hK'.out _ _ trivial (fun hHeld => ?_)
            clear hK' K'
            generalize u3.setCells g3 (o3 + (j + 1) * 6) (List.take ((d.length + 1 - (j + 1)) * 6) (List.drop (j * 6) (List.flatMap tC (d ++ [t])))) = u4 at HO4 HB4 HR4 ⊢
            simp only [Act.put, List.setIfInBounds_toArray, List.set_cons_zero, List.set_cons_succ]
            refine wpAnyH_done (by kernel_rfl) ?_ _
            clear hHeld hbk hbk2 hwj
            have jI2 : (j : Int) < ((d.length + 1 : Nat) : Int) := by omega
            have jI3 : (j : Int) < (d.length : Int) + 1 := by omega
            have q0 := HR4.out.c 0 _ rfl
            have q1 := HR4.out.c 1 _ rfl
            have q2 := HR4.out.c 2 _ rfl
            have q3 := HR4.out.c 3 _ rfl
            have q4 := HR4.out.c 4 _ rfl
            have q5 := HR4.out.c 5 _ rfl
            have hlen4 : ((d.take j ++ x :: d.drop j).flatMap tC).length = (d.length + 1) * 6 := HO4.out.sl.2.2.1
            go_wp2_with (refine Sg.wpList_storeOwn elT rfl (.tmp 41) (.tmp 40) rfl #[.int .i64 t.kind, .int .i64 t.at_, .int .i64 t.cycle, .int .i64 t.rep, .int .i64 t.msg, .int .i64 t.til] rfl rfl HO4.out hc0 rfl (show j * 6 + 6 ≤ _ by rw [hlen4]; omega) (tC_one t) ?_; intro u5 h5 hk5; have HO6 : Hid (Sg.OL 36 6 W.heap.size u5 (some ⟨g3, o3, none⟩) c2 (d.length + 1) ((d.take j ++ t :: d.drop j).flatMap tC)) := (by have e := Sg.flat_at (f := tC) (sz := 6) (fun _ => rfl) d j x t (Nat.le_of_lt hjl); show Sg.OL _ _ _ _ _ _ _ _; rw [← e]; exact h5); have HB6 : Hid (Below W.heap.size W u5) := HB4.out.trans (HO4.out.below hk5 HB4.out.size); clear h5 hk5 HO4 HB4 HR4 q0 q1 q2 q3 q4 q5 hlen4)
            go_roundw
            case rel => exact ⟨k + 1, some ⟨g3, o3, none⟩, c2, d.length + 1, d.take j ++ t :: d.drop j, by omega, rfl, rfl, by show _ = _; rw [← HLd.out, Yq.len_lay], by show _ = _; rw [HLy.out, HLd.out], HO6, HB6⟩
            case measure => simp only [intOf]; omega
          · have HF2 : Hid (∀ (i : Nat) y, i < j + 1 → d[i]? = some y → Yq.le t y = true) := fun i y hi hy => by
              rcases Nat.lt_or_eq_of_le (Nat.le_of_lt_succ hi) with h1 | h1
              · exact HF.out i y h1 hy
              · subst h1
                rw [HX.out] at hy
                injection hy with hy
                subst hy
                exact decide_eq_true (by omega)
            have hgd : decide (t.at_ < x.at_) = false := decide_eq_false hgt
            clear HF HX
            go_wp2_with fail
            go_roundw
            case rel => exact ⟨j + 1, by omega, rfl, rfl, HR, HO, HB, HF2⟩
            case measure => simp only [intOf]; omega
        · have HLd : Hid (Yq.lay d t = d ++ [t]) := Yq.lay_end (fun i y hi hy => HF.out i y (by omega) hy)
          obtain rfl : j = d.length := by omega
          clear HF
          go_upto_region 13 with fail
          have HO5 : Hid (∀ ob, Sg.OL 36 6 W.heap.size (wr.alloc ob) s' c' d.length (d.flatMap tC)) := fun ob => HO.out.on ((Below.refl _ _).alloc (Nat.le_refl _) _)
          have HBa : Hid (∀ ob, Below W.heap.size W (wr.alloc ob)) := fun ob => HB.out.alloc HB.out.size _
          have HRa : Hid (∀ ob, RowT 36 (wr.alloc ob) q #[.int .i64 t.kind, .int .i64 t.at_, .int .i64 t.cycle, .int .i64 t.rep, .int .i64 t.msg, .int .i64 t.til]) := fun ob => HR.out.on ((Below.refl _ _).alloc (Nat.le_refl _) _)
          have HSn : Hid (Src Tryd.prog 6 33 (.slice (some ⟨wr.heap.size, 0, none⟩) 1 1) 1 (tC t) (wr.alloc (.cells #[.int .i64 t.kind, .int .i64 t.at_, .int .i64 t.cycle, .int .i64 t.rep, .int .i64 t.msg, .int .i64 t.til] 36))) := Sg.src_new Tryd.underlying33 wr 36 6 1 _ rfl (tC_one t)
          have q0 := HR.out.c 0 _ rfl
          have q1 := HR.out.c 1 _ rfl
          have q2 := HR.out.c 2 _ rfl
          have q3 := HR.out.c 3 _ rfl
          have q4 := HR.out.c 4 _ rfl
          have q5 := HR.out.c 5 _ rfl
          have HQ : Hid (q < (wr.alloc (.cells #[.int .i64 t.kind, .int .i64 t.at_, .int .i64 t.cycle, .int .i64 t.rep, .int .i64 t.msg, .int .i64 t.til] 36)).heap.size) := Nat.lt_of_lt_of_le HR.out.lt (by simp)
          clear HR HO HB
          go_wp2_with (refine Sg.wpList_append2 elT rfl (.tmp 43) (.tmp 45) 33 rfl rfl rfl (HO5.out _) (HBa.out _).size HSn.out (show d.length + 1 ≤ 1000000 by omega) ?_; intro s2 c2 n2 u2 hn2 h2 hk2 ha2; have HBu : Hid (Below W.heap.size W u2) := (HBa.out _).trans ((HO5.out _).below hk2 (HBa.out _).size); have hOu : Sg.OL 36 6 W.heap.size u2 s2 c2 n2 ((d ++ [t]).flatMap tC) := (by rw [List.flatMap_append]; simpa using h2); have HOu : Hid (Sg.OL 36 6 W.heap.size u2 s2 c2 n2 ((d ++ [t]).flatMap tC)) := hOu; clear hOu; have HNu : Hid (n2 = d.length + 1) := hn2; have HRu : Hid (RowT 36 u2 q #[.int .i64 t.kind, .int .i64 t.at_, .int .i64 t.cycle, .int .i64 t.rep, .int .i64 t.msg, .int .i64 t.til]) := (HRa.out _).kept hk2 (fun hg => Nat.lt_irrefl _ (HLt.out _ hg)); have HLu : Hid (∀ g, Sg.At_ s2 c2 g → g ≠ q) := Ym.ne HLt.out HQ.out ha2; clear hn2 h2 hk2 ha2 HO5 HBa HSn HRa q0 q1 q2 q3 q4 q5)
          go_roundw
          case rel => exact ⟨k + 1, s2, c2, n2, d ++ [t], by omega, rfl, rfl, by show _ = _; rw [HNu.out, List.length_append]; rfl, by show _ = _; rw [HLy.out, HLd.out], HOu, HBu⟩
          case measure => simp only [intOf]; omega
    · obtain rfl : k = n := by omega
      have HD2 := HD.out
      rw [HEnd.out] at HD2
      obtain rfl := HN.out
      clear HEl HG HLe HEnd HD HSt HN
      go_wp2
      rw [Exit.noGoto_ret]
      go_ret
      exact ⟨s', c', d.length, by rw [HD2], rfl, by rw [← HD2]; exact HO.out, HB.out⟩
theorem pk_sorted (W : World) (l : List Yq.Tr) (s : Option Addr) (c : Nat) (h : LI W s c l.length (l.flatMap tC)) (hl : l.length ≤ 1000) : Tells Tryd.prog 33 #[.slice s l.length c] W (l.foldl Yq.lay []) := (pk_sortedN W l s c h hl).tells
end Go.Proofs.YtnbfnipdiffphaaDoor
