/- Layer 15: the document's Due, over its text. -/
import Derived.Test.YtnbfnipdiffphaaDoorYa
import Derived.Test.YtnbfnipdiffphaaDoorB1
import Derived.Test.YtnbfnipdiffphaaDoorU2
import Derived.Deep.CutBlock
namespace Go.Proofs.YtnbfnipdiffphaaDoor
open Go.RowKit Go.WideShapes
set_option linter.unusedVariables false
theorem take_at {α : Type} {l : List α} {k : Nat} {t : α} (h : l[k]? = some t) : l.take (k + 1) = l.take k ++ [t] := by
  rw [List.take_add_one, h]
  rfl
theorem due_no {l : List Yq.Tr} {k : Nat} {t : Yq.Tr} {d : List Yq.Tr} {cy lo hi : Int} (h : l[k]? = some t) (hd : d = Yq.due (l.take k) cy lo hi) (hf : Yq.isDue cy lo hi t = false) : d = Yq.due (l.take (k + 1)) cy lo hi := by
  rw [hd, take_at h]
  unfold Yq.due
  rw [List.filter_append]
  simp [hf]
theorem due_yes {l : List Yq.Tr} {k : Nat} {t : Yq.Tr} {d : List Yq.Tr} {cy lo hi : Int} (h : l[k]? = some t) (hd : d = Yq.due (l.take k) cy lo hi) (hf : Yq.isDue cy lo hi t = true) : d ++ [t] = Yq.due (l.take (k + 1)) cy lo hi := by
  rw [hd, take_at h]
  unfold Yq.due
  rw [List.filter_append]
  simp [hf]
theorem due_le (l : List Yq.Tr) (cy lo hi : Int) : (Yq.due l cy lo hi).length ≤ l.length := List.length_filter_le _ _
set_option maxRecDepth 100000 in
set_option maxHeartbeats 4000000 in
theorem rdue_any (w : World) (l : List Yq.Tr) (s : Option Addr) (c : Nat) (cy lo hi : Int) (h : LI w s c l.length (l.flatMap tC)) (hl : l.length ≤ 1000) (hwf : ∀ t ∈ l, Yq.Wf t) (hcy : (Lit.int .i64 cy).wf = true) : Calls Tryd.prog 14 #[.slice s l.length c, .int .i64 cy, .int .i64 lo, .int .i64 hi] w fun e w' => ∃ s' c' n', n' = (Yq.due l cy lo hi).length ∧ e = .returned (.slice s' n' c') ∧ Sg.OL 36 6 w.heap.size w' s' c' n' ((Yq.due l cy lo hi).flatMap tC) ∧ Below w.heap.size w w' := by
  have HG : Hid (∀ i, i < l.length → ∃ t, l[i]? = some t) := fun i hi => ⟨_, List.getElem?_eq_getElem hi⟩
  have HEl : Hid (∀ i t, l[i]? = some t → ∃ g o, s = some ⟨g, o, none⟩ ∧ ∀ w', Below w.heap.size w w' → w'.cell? ⟨g, o + i * 6, none⟩ = some (.int .i64 t.kind) ∧ w'.cell? ⟨g, o + i * 6 + 1, none⟩ = some (.int .i64 t.at_) ∧ w'.cell? ⟨g, o + i * 6 + 2, none⟩ = some (.int .i64 t.cycle) ∧ w'.cell? ⟨g, o + i * 6 + 3, none⟩ = some (.int .i64 t.rep) ∧ w'.cell? ⟨g, o + i * 6 + 4, none⟩ = some (.int .i64 t.msg) ∧ w'.cell? ⟨g, o + i * 6 + 5, none⟩ = some (.int .i64 t.til)) := fun i t ht => by
    obtain ⟨g, o, hs, hg, _⟩ := h.at (sz := 6) (fun _ => rfl) i t ht
    refine ⟨g, o, hs, fun w' hb => ?_⟩
    obtain ⟨g', o', hs', _, hc⟩ := (h.on hb).at (sz := 6) (fun _ => rfl) i t ht
    rw [hs] at hs'
    injection hs' with hs'
    injection hs' with e1 e2
    subst e1 e2
    refine ⟨?_, ?_, ?_, ?_, ?_, ?_⟩
    · have := hc 0 _ rfl; rwa [Nat.add_zero] at this
    · have := hc 1 _ rfl; rwa [← Nat.add_assoc] at this
    · have := hc 2 _ rfl; rwa [← Nat.add_assoc] at this
    · have := hc 3 _ rfl; rwa [← Nat.add_assoc] at this
    · have := hc 4 _ rfl; rwa [← Nat.add_assoc] at this
    · have := hc 5 _ rfl; rwa [← Nat.add_assoc] at this
  have HWf : Hid (∀ i t, l[i]? = some t → Yq.Wf t) := fun i t ht => hwf t (List.mem_of_getElem? ht)
  have HLe : Hid (∀ k, (Yq.due (l.take k) cy lo hi).length ≤ 1000) := fun k => by
    have h1 := due_le (l.take k) cy lo hi
    have h2 := List.length_take_le k l
    have h3 : (l.take k).length ≤ l.length := by rw [List.length_take]; omega
    omega
  have HEnd : Hid (Yq.due (l.take l.length) cy lo hi = Yq.due l cy lo hi) := by show _ = _; rw [List.take_length]
  clear h hwf
  generalize l.length = n at HG HEnd hl ⊢
  go_enter Tryd.func14, Tryd.ntmps14
  go_wp2_with fail
  go_loopw [9, 10] (fun vo vi wr => ∃ (k : Nat) (s' : Option Addr) (c' n' : Nat) (d : List Yq.Tr), k ≤ n ∧ vi = .int .i64 (k : Int) ∧ vo = .slice s' n' c' ∧ n' = d.length ∧ Hid (d = Yq.due (l.take k) cy lo hi) ∧ Hid (Sg.OL 36 6 w.heap.size wr s' c' n' (d.flatMap tC)) ∧ Hid (Below w.heap.size w wr)) (fun _ vi _ => n - (intOf vi).toNat)
  case atStart => exact ⟨0, none, 0, 0, [], Nat.zero_le _, rfl, rfl, rfl, rfl, Sg.OL.nil _ _ _ _, Below.refl _ _⟩
  case round =>
    obtain ⟨k, s', c', n', d, hk, rfl, rfl, hn', HD, HO, HB⟩ := hrel
    by_cases hlt : k < n
    · obtain ⟨t, ht⟩ := HG.out k hlt
      obtain ⟨g, o, rfl, hc⟩ := HEl.out k t ht
      have HL : Hid (l[k]? = some t) := ht
      have hT := HWf.out k t ht
      have HE : Hid (∀ w', Below wr.heap.size wr w' → w'.cell? ⟨g, o + k * 6, none⟩ = some (.int .i64 t.kind) ∧ w'.cell? ⟨g, o + k * 6 + 1, none⟩ = some (.int .i64 t.at_) ∧ w'.cell? ⟨g, o + k * 6 + 2, none⟩ = some (.int .i64 t.cycle) ∧ w'.cell? ⟨g, o + k * 6 + 3, none⟩ = some (.int .i64 t.rep) ∧ w'.cell? ⟨g, o + k * 6 + 4, none⟩ = some (.int .i64 t.msg) ∧ w'.cell? ⟨g, o + k * 6 + 5, none⟩ = some (.int .i64 t.til)) := fun w' hb => hc w' (HB.out.trans (hb.mono HB.out.size))
      have HCo : Hid (∀ w', Calls Tryd.prog 26 #[.int .i64 t.cycle, .int .i64 t.rep, .int .i64 cy] w' fun e w'' => e = .returned (.bool (Mx.comes t.cycle t.rep cy)) ∧ w'' = w') := fun w' => rcomes_any w' t.cycle t.rep cy hT.cycle hcy
      obtain ⟨e0, e1, e2, e3, e4, e5⟩ := HE.out wr (Below.refl _ _)
      have kI : (k : Int) < (n : Int) := by omega
      have hdl : d.length ≤ 1000 := by rw [HD.out]; exact HLe.out k
      clear hc ht hT HEl HG HWf HLe HEnd
      go_upto_region 5 with fail
      by_cases a1 : lo < t.at_
      · have a1d : decide (lo < t.at_) = true := decide_eq_true a1
        by_cases a2 : t.at_ ≤ hi
        · have a2d : decide (t.at_ ≤ hi) = true := decide_eq_true a2
          cases a3 : Mx.comes t.cycle t.rep cy
          · rw [a3] at HCo
            have hdue : Yq.isDue cy lo hi t = false := by unfold Yq.isDue; rw [a3]; simp
            clear a1 a2
            refine Lw.wp_region_quiet_below (by kernel_rfl) (by kernel_rfl) ?_
            repeat (first
              | go_big_quiet_skip
              | (go_big_quiet_want; go_big_quiet_op; go_big_quiet_on)
              | (go_big_quiet_want; go_big_quiet_op; apply Exists.intro; refine ⟨fun _ hb' => ?_, ?_⟩; (first
                | exact Lw.val_rfl _
                | (go_at_call 26; exact Lw.calls_same hb' (HCo.out _))
                | (simp [go_sem, (HE.out _ hb').2.1]; rfl)
                | (simp [go_sem, (HE.out _ hb').2.2.1]; rfl)
                | (simp [go_sem, (HE.out _ hb').2.2.2.1]; rfl)); go_big_quiet_on))
            refine wpQuiet_nil ?_
            intro w5 hb5
            have HB5 : Hid (Below w.heap.size w w5) := HB.out.trans (hb5.mono HB.out.size)
            have HO5 : Hid (Sg.OL 36 6 w.heap.size w5 s' c' n' (d.flatMap tC)) := HO.out.on hb5
            have HD2 : Hid (d = Yq.due (l.take (k + 1)) cy lo hi) := due_no HL.out HD.out hdue
            clear hb5 HE HD HO HB HL hdue HCo e0 e1 e2 e3 e4 e5
            go_wp2_with fail
            go_roundw
            case rel => exact ⟨k + 1, s', c', n', d, by omega, rfl, rfl, hn', HD2, HO5, HB5⟩
            case measure => simp only [intOf]; omega
          · rw [a3] at HCo
            have hdue : Yq.isDue cy lo hi t = true := by unfold Yq.isDue; rw [a1d, a2d, a3]; rfl
            clear a1 a2
            subst hn'
            refine Lw.wp_region_quiet_below (by kernel_rfl) (by kernel_rfl) ?_
            repeat (first
              | go_big_quiet_skip
              | (go_big_quiet_want; go_big_quiet_op; go_big_quiet_on)
              | (go_big_quiet_want; go_big_quiet_op; apply Exists.intro; refine ⟨fun _ hb' => ?_, ?_⟩; (first
                | exact Lw.val_rfl _
                | (go_at_call 26; exact Lw.calls_same hb' (HCo.out _))
                | (simp [go_sem, (HE.out _ hb').2.1]; rfl)
                | (simp [go_sem, (HE.out _ hb').2.2.1]; rfl)
                | (simp [go_sem, (HE.out _ hb').2.2.2.1]; rfl)); go_big_quiet_on))
            refine wpQuiet_nil ?_
            intro w5 hb5
            have HB5 : Hid (Below w.heap.size w w5) := HB.out.trans (hb5.mono HB.out.size)
            have HO5 : Hid (∀ ob, Sg.OL 36 6 w.heap.size (w5.alloc ob) s' c' d.length (d.flatMap tC)) := fun ob => (HO.out.on hb5).on ((Below.refl _ _).alloc (Nat.le_refl _) _)
            have HBa : Hid (∀ ob, Below w.heap.size w (w5.alloc ob)) := fun ob => HB5.out.alloc HB5.out.size _
            obtain ⟨q0, q1, q2, q3, q4, q5⟩ := HE.out w5 hb5
            have HSn : Hid (Src Tryd.prog 6 33 (.slice (some ⟨w5.heap.size, 0, none⟩) 1 1) 1 (tC t) (w5.alloc (.cells #[.int .i64 t.kind, .int .i64 t.at_, .int .i64 t.cycle, .int .i64 t.rep, .int .i64 t.msg, .int .i64 t.til] 36))) := Sg.src_new Tryd.underlying33 w5 36 6 1 _ rfl (tC_one t)
            have HD2 : Hid (d ++ [t] = Yq.due (l.take (k + 1)) cy lo hi) := due_yes HL.out HD.out hdue
            clear hb5 HE HD HO HB HL hdue HCo e0 e1 e2 e3 e4 e5
            go_wp2_with (refine Sg.wpList_appendO elT rfl (.tmp 47) (.tmp 52) 33 rfl rfl rfl (HO5.out _) (HBa.out _).size HSn.out (show d.length + 1 ≤ 1000000 by omega) ?_; intro s2 c2 n2 u2 hn2 h2 hk2; have HBu : Hid (Below w.heap.size w u2) := (HBa.out _).trans ((HO5.out _).below hk2 (HBa.out _).size); have hOu : Sg.OL 36 6 w.heap.size u2 s2 c2 n2 ((d ++ [t]).flatMap tC) := (by rw [List.flatMap_append]; simpa using h2); have HOu : Hid (Sg.OL 36 6 w.heap.size u2 s2 c2 n2 ((d ++ [t]).flatMap tC)) := hOu; clear hOu; subst hn2; clear h2 hk2 HO5 HBa HSn)
            go_roundw
            case rel => exact ⟨k + 1, s2, c2, _, d ++ [t], by omega, rfl, rfl, by rw [List.length_append, List.length_singleton], HD2, HOu, HBu⟩
            case measure => simp only [intOf]; omega
        · have a2d : decide (t.at_ ≤ hi) = false := decide_eq_false a2
          have hdue : Yq.isDue cy lo hi t = false := by unfold Yq.isDue; rw [a2d]; simp
          clear a1 a2
          refine Lw.wp_region_quiet_below (by kernel_rfl) (by kernel_rfl) ?_
          repeat (first
            | go_big_quiet_skip
            | (go_big_quiet_want; go_big_quiet_op; go_big_quiet_on)
            | (go_big_quiet_want; go_big_quiet_op; apply Exists.intro; refine ⟨fun _ hb' => ?_, ?_⟩; (first
              | exact Lw.val_rfl _
              | (go_at_call 26; exact Lw.calls_same hb' (HCo.out _))
              | (simp [go_sem, (HE.out _ hb').2.1]; rfl)
              | (simp [go_sem, (HE.out _ hb').2.2.1]; rfl)
              | (simp [go_sem, (HE.out _ hb').2.2.2.1]; rfl)); go_big_quiet_on))
          refine wpQuiet_nil ?_
          intro w5 hb5
          have HB5 : Hid (Below w.heap.size w w5) := HB.out.trans (hb5.mono HB.out.size)
          have HO5 : Hid (Sg.OL 36 6 w.heap.size w5 s' c' n' (d.flatMap tC)) := HO.out.on hb5
          have HD2 : Hid (d = Yq.due (l.take (k + 1)) cy lo hi) := due_no HL.out HD.out hdue
          clear hb5 HE HD HO HB HL hdue HCo e0 e1 e2 e3 e4 e5
          go_wp2_with fail
          go_roundw
          case rel => exact ⟨k + 1, s', c', n', d, by omega, rfl, rfl, hn', HD2, HO5, HB5⟩
          case measure => simp only [intOf]; omega
      · have a1d : decide (lo < t.at_) = false := decide_eq_false a1
        have hdue : Yq.isDue cy lo hi t = false := by unfold Yq.isDue; rw [a1d]; simp
        clear a1
        refine Lw.wp_region_quiet_below (by kernel_rfl) (by kernel_rfl) ?_
        repeat (first
          | go_big_quiet_skip
          | (go_big_quiet_want; go_big_quiet_op; go_big_quiet_on)
          | (go_big_quiet_want; go_big_quiet_op; apply Exists.intro; refine ⟨fun _ hb' => ?_, ?_⟩; (first
            | exact Lw.val_rfl _
            | (go_at_call 26; exact Lw.calls_same hb' (HCo.out _))
            | (simp [go_sem, (HE.out _ hb').2.1]; rfl)
            | (simp [go_sem, (HE.out _ hb').2.2.1]; rfl)
            | (simp [go_sem, (HE.out _ hb').2.2.2.1]; rfl)); go_big_quiet_on))
        refine wpQuiet_nil ?_
        intro w5 hb5
        have HB5 : Hid (Below w.heap.size w w5) := HB.out.trans (hb5.mono HB.out.size)
        have HO5 : Hid (Sg.OL 36 6 w.heap.size w5 s' c' n' (d.flatMap tC)) := HO.out.on hb5
        have HD2 : Hid (d = Yq.due (l.take (k + 1)) cy lo hi) := due_no HL.out HD.out hdue
        clear hb5 HE HD HO HB HL hdue HCo e0 e1 e2 e3 e4 e5
        go_wp2_with fail
        go_roundw
        case rel => exact ⟨k + 1, s', c', n', d, by omega, rfl, rfl, hn', HD2, HO5, HB5⟩
        case measure => simp only [intOf]; omega
    · obtain rfl : k = n := by omega
      have HD2 := HD.out
      rw [HEnd.out] at HD2
      clear HEl HG HWf HLe HEnd HD
      go_wp2
      go_ret
      exact ⟨s', c', n', by rw [← HD2]; exact hn', rfl, by rw [← HD2]; exact HO.out, HB.out⟩
end Go.Proofs.YtnbfnipdiffphaaDoor
