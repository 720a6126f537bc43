/- Layer 15: the document's laid, over its text. -/
import Derived.Test.YtnbfnipdiffphaaDoorYb
import Derived.Test.YtnbfnipdiffphaaDoorSi
import Derived.Test.YtnbfnipdiffphaaDoorHl
import Derived.Deep.CutBlock
namespace Go.Proofs.YtnbfnipdiffphaaDoor
open Go.RowKit Go.WideShapes
set_option linter.unusedVariables false
theorem lay_at {t : Yq.Tr} : ∀ {l : List Yq.Tr} {k : Nat}, k ≤ l.length → (∀ (j : Nat) x, j < k → l[j]? = some x → Yq.le t x = true) → (∀ x, l[k]? = some x → Yq.le t x = false) → l.takeWhile (Yq.le t) = l.take k ∧ l.dropWhile (Yq.le t) = l.drop k
  | [], k, _, _, _ => by simp
  | a :: l, 0, _, _, h2 => by
    have := h2 a rfl
    simp [this]
  | a :: l, k + 1, hk, h1, h2 => by
    have h := h1 0 a (by omega) rfl
    obtain ⟨e1, e2⟩ := lay_at (t := t) (l := l) (k := k) (by simpa using hk) (fun j x hj hx => h1 (j + 1) x (by omega) (by simpa using hx)) (fun x hx => h2 x (by simpa using hx))
    rw [List.takeWhile_cons, List.dropWhile_cons, h, if_pos rfl, if_pos rfl, e1, e2]
    exact ⟨rfl, rfl⟩
theorem tinfo15 : (Tryd.prog.info? 36).map (·.size) = some 6 := by kernel_rfl
set_option maxRecDepth 100000 in
set_option maxHeartbeats 4000000 in
theorem rlaid_any (W : World) (l : List Yq.Tr) (s : Option Addr) (c : Nat) (t : Yq.Tr) (h : LI W s c l.length (l.flatMap tC)) (hl : l.length ≤ 1000) : Calls Tryd.prog 23 #[.slice s l.length c, .agg #[.int .i64 t.kind, .int .i64 t.at_, .int .i64 t.cycle, .int .i64 t.rep, .int .i64 t.msg, .int .i64 t.til]] W fun e w' => ∃ s' c' n', n' = (Yq.lay l t).length ∧ e = .returned (.slice s' n' c') ∧ Sg.OL 36 6 W.heap.size w' s' c' n' ((Yq.lay l t).flatMap tC) ∧ Below W.heap.size W w' := by
  have hcap := h.1
  have HLI : Hid (∀ w', Below W.heap.size W w' → LI w' s c l.length (l.flatMap tC)) := fun w' hb => h.on hb
  have HG : Hid (∀ i, i < l.length → ∃ x, l[i]? = some x) := fun i hi => ⟨_, List.getElem?_eq_getElem hi⟩
  have HEl : Hid (∀ i x, l[i]? = some x → ∃ g o, s = some ⟨g, o, none⟩ ∧ ∀ w', Below W.heap.size W w' → w'.cell? ⟨g, o + i * 6 + 1, none⟩ = some (.int .i64 x.at_)) := fun i x hx => by
    obtain ⟨g, o, hs, hg, _⟩ := h.at (sz := 6) (fun _ => rfl) i x hx
    refine ⟨g, o, hs, fun w' hb => ?_⟩
    obtain ⟨g', o', hs', _, hc⟩ := (h.on hb).at (sz := 6) (fun _ => rfl) i x hx
    rw [hs] at hs'
    injection hs' with hs'
    injection hs' with e1 e2
    subst e1 e2
    have := hc 1 _ rfl
    rwa [← Nat.add_assoc] at this
  have HR : Hid (RowT 36 (W.alloc (.cells #[.int .i64 t.kind, .int .i64 t.at_, .int .i64 t.cycle, .int .i64 t.rep, .int .i64 t.msg, .int .i64 t.til] 36)) W.heap.size #[.int .i64 t.kind, .int .i64 t.at_, .int .i64 t.cycle, .int .i64 t.rep, .int .i64 t.msg, .int .i64 t.til]) := RowT.new _ _ _
  have HB : Hid (Below W.heap.size W (W.alloc (.cells #[.int .i64 t.kind, .int .i64 t.at_, .int .i64 t.cycle, .int .i64 t.rep, .int .i64 t.msg, .int .i64 t.til] 36))) := (Below.refl _ _).alloc (Nat.le_refl _) _
  have HEn : Hid (∀ k, k ≤ l.length → (∀ (j : Nat) x, j < k → l[j]? = some x → Yq.le t x = true) → (∀ x, l[k]? = some x → Yq.le t x = false) → Yq.lay l t = l.take k ++ t :: l.drop k) := fun k h0 h1 h2 => by
    obtain ⟨e1, e2⟩ := lay_at h0 h1 h2
    unfold Yq.lay
    rw [e1, e2]
  clear h
  obtain ⟨n, hn⟩ : ∃ n, l.length = n := ⟨_, rfl⟩
  have HN : Hid (l.length = n) := hn
  rw [hn] at hl hcap HG HEn ⊢
  clear hn
  go_enter Tryd.func23, Tryd.ntmps23
  go_upto_block 0 with fail
  generalize W.alloc (.cells #[.int .i64 t.kind, .int .i64 t.at_, .int .i64 t.cycle, .int .i64 t.rep, .int .i64 t.msg, .int .i64 t.til] 36) = wB at HR HB ⊢
  go_cut [5] from 7 (fun v wx => ∃ k : Nat, k ≤ n ∧ v = .int .i64 (k : Int) ∧ Hid ((∀ (j : Nat) x, j < k → l[j]? = some x → Yq.le t x = true)) ∧ Hid (∀ x, l[k]? = some x → Yq.le t x = false) ∧ Hid (RowT 36 wx W.heap.size #[.int .i64 t.kind, .int .i64 t.at_, .int .i64 t.cycle, .int .i64 t.rep, .int .i64 t.msg, .int .i64 t.til]) ∧ Hid (Below W.heap.size W wx))
  case first =>
    go_wp2_with fail
    go_loopw [5] (fun vi wr => ∃ k : Nat, k ≤ n ∧ vi = .int .i64 (k : Int) ∧ Hid ((∀ (j : Nat) x, j < k → l[j]? = some x → Yq.le t x = true)) ∧ Hid (RowT 36 wr W.heap.size #[.int .i64 t.kind, .int .i64 t.at_, .int .i64 t.cycle, .int .i64 t.rep, .int .i64 t.msg, .int .i64 t.til]) ∧ Hid (Below W.heap.size W wr)) (fun vi _ => n - (intOf vi).toNat)
    case atStart => exact ⟨0, Nat.zero_le _, rfl, fun j x hj => absurd hj (Nat.not_lt_zero _), HR, HB⟩
    case round =>
      clear HR HB
      obtain ⟨k, hk, rfl, HF, HR, HB⟩ := hrel
      by_cases hlt : k < n
      · obtain ⟨x, hx⟩ := HG.out k hlt
        obtain ⟨g, o, rfl, hc⟩ := HEl.out k x hx
        have HE : Hid (∀ w', Below wr.heap.size wr w' → w'.cell? ⟨g, o + k * 6 + 1, none⟩ = some (.int .i64 x.at_) ∧ w'.cell? ⟨W.heap.size, 1, none⟩ = some (.int .i64 t.at_)) := fun w' hb => ⟨hc w' (HB.out.trans (hb.mono HB.out.size)), (HR.out.on hb).c 1 _ rfl⟩
        have kI : (k : Int) < (n : Int) := by omega
        have kd : decide ((k : Int) < (n : Int)) = true := decide_eq_true kI
        have kd2 : decide (k < n) = true := decide_eq_true hlt
        have HXk : Hid (l[k]? = some x) := hx
        clear hc hx HG HEl HLI HEn
        by_cases a1 : x.at_ ≤ t.at_
        · have a1d : decide (x.at_ ≤ t.at_) = true := decide_eq_true a1
          have HF2 : Hid (∀ (j : Nat) y, j < k + 1 → l[j]? = some y → Yq.le t y = true) := fun j y hj hy => by
            rcases Nat.lt_or_eq_of_le (Nat.le_of_lt_succ hj) with h1 | h1
            · exact HF.out j y h1 hy
            · subst h1
              rw [HXk.out] at hy
              injection hy with hy
              subst hy
              exact a1d
          go_wp2_with fail
          refine Lw.wp_region_quiet_below (by kernel_rfl) (by kernel_rfl) ?_
          repeat (first
            | go_big_quiet_skip
            | (go_big_quiet_want; go_big_quiet_op; go_big_quiet_on)
            | (go_big_quiet_want; go_big_quiet_op; apply Exists.intro; refine ⟨fun _ hb' => ?_, ?_⟩; (first
              | exact Lw.val_rfl _
              | (simp [go_sem, (HE.out _ hb').1]; rfl)
              | (simp [go_sem, (HE.out _ hb').2]; rfl)); go_big_quiet_on))
          refine wpQuiet_nil ?_
          intro w5 hb5
          have HR5 : Hid (RowT 36 w5 W.heap.size #[.int .i64 t.kind, .int .i64 t.at_, .int .i64 t.cycle, .int .i64 t.rep, .int .i64 t.msg, .int .i64 t.til]) := HR.out.on hb5
          have HB5 : Hid (Below W.heap.size W w5) := HB.out.trans (hb5.mono HB.out.size)
          clear hb5 HE HF HR HB HXk a1
          go_wp2_with fail
          go_roundw
          case rel => exact ⟨k + 1, by omega, rfl, HF2, HR5, HB5⟩
          case measure => simp only [intOf]; omega
        · have a1d : decide (x.at_ ≤ t.at_) = false := decide_eq_false a1
          have HF2 : Hid (∀ y, l[k]? = some y → Yq.le t y = false) := fun y hy => by
            rw [HXk.out] at hy
            injection hy with hy
            subst hy
            exact a1d
          go_wp2_with fail
          refine Lw.wp_region_quiet_below (by kernel_rfl) (by kernel_rfl) ?_
          repeat (first
            | go_big_quiet_skip
            | (go_big_quiet_want; go_big_quiet_op; go_big_quiet_on)
            | (go_big_quiet_want; go_big_quiet_op; apply Exists.intro; refine ⟨fun _ hb' => ?_, ?_⟩; (first
              | exact Lw.val_rfl _
              | (simp [go_sem, (HE.out _ hb').1]; rfl)
              | (simp [go_sem, (HE.out _ hb').2]; rfl)); go_big_quiet_on))
          refine wpQuiet_nil ?_
          intro w5 hb5
          have HR5 : Hid (RowT 36 w5 W.heap.size #[.int .i64 t.kind, .int .i64 t.at_, .int .i64 t.cycle, .int .i64 t.rep, .int .i64 t.msg, .int .i64 t.til]) := HR.out.on hb5
          have HB5 : Hid (Below W.heap.size W w5) := HB.out.trans (hb5.mono HB.out.size)
          clear hb5 HE HR HB HXk a1
          go_wp2_with fail
          go_meet
          case rel => exact ⟨k, by omega, rfl, HF, HF2, HR5, HB5⟩
      · obtain rfl : k = n := by omega
        have HF2 : Hid (∀ y, l[k]? = some y → Yq.le t y = false) := fun y hy => by
          have := (List.getElem?_eq_some_iff.1 hy).1
          have := HN.out
          omega
        have kd : decide ((k : Int) < (k : Int)) = false := decide_eq_false (by omega)
        have kd2 : decide (k < k) = false := decide_eq_false (by omega)
        clear HG HEl HLI HEn
        go_wp2_with fail
        refine Lw.wp_region_quiet_below (by kernel_rfl) (by kernel_rfl) ?_
        repeat (first
          | go_big_quiet_skip
          | (go_big_quiet_want; go_big_quiet_op; go_big_quiet_on)
          | (go_big_quiet_want; go_big_quiet_op; apply Exists.intro; refine ⟨fun _ hb' => ?_, ?_⟩; (first
            | exact Lw.val_rfl _); go_big_quiet_on))
        refine wpQuiet_nil ?_
        intro w5 hb5
        have HR5 : Hid (RowT 36 w5 W.heap.size #[.int .i64 t.kind, .int .i64 t.at_, .int .i64 t.cycle, .int .i64 t.rep, .int .i64 t.msg, .int .i64 t.til]) := HR.out.on hb5
        have HB5 : Hid (Below W.heap.size W w5) := HB.out.trans (hb5.mono HB.out.size)
        clear hb5 HR HB
        go_wp2_with fail
        go_meet
        case rel => exact ⟨k, by omega, rfl, HF, HF2, HR5, HB5⟩
  case rest =>
    clear HR HB HG HEl
    obtain ⟨k, hk, rfl, HF, HF2, HR, HB⟩ := hcut
    have HLay : Hid (Yq.lay l t = l.take k ++ t :: l.drop k) := HEn.out k hk HF.out HF2.out
    clear HEn HF HF2
    have hfr : ∀ W, (Instr.sliceAt 33 (.slice s n c) none (some (.int .i64 (k : Int))) none).run Tryd.prog W = .ok (.slice (Sg.frontAt s c 6) k c) W := fun W => Sg.run_front Tryd.underlying33 tinfo15 s n c k (by omega) W
    have hbk : ∀ W, (Instr.sliceAt 33 (.slice s n c) (some (.int .i64 (k : Int))) none none).run Tryd.prog W = .ok (.slice (Sg.backAt s c k 6) (n - k) (c - k)) W := fun W => Sg.run_back Tryd.underlying33 tinfo15 s n c k hk W
    have HSf : Hid (∀ w', Below W.heap.size W w' → Src Tryd.prog 6 33 (.slice (Sg.frontAt s c 6) k c) k ((l.take k).flatMap tC) w') := fun w' hb => Sg.src_front (f := tC) (sz := 6) (fun _ => rfl) Tryd.underlying33 (HLI.out w' hb) (tC_flat l) (by rw [HN.out]; exact hk)
    have HSb : Hid (∀ w', Below W.heap.size W w' → Src Tryd.prog 6 33 (.slice (Sg.backAt s c k 6) (n - k) (c - k)) (n - k) ((l.drop k).flatMap tC) w') := fun w' hb => by
      have := Sg.src_back (P := Tryd.prog) (t := 33) (f := tC) (sz := 6) (fun _ => rfl) Tryd.underlying33 (HLI.out w' hb) (tC_flat l) (k := k) (by rw [HN.out]; exact hk)
      rw [HN.out] at this
      exact this
    generalize Sg.frontAt s c 6 = sF at hfr HSf
    generalize Sg.backAt s c k 6 = sB at hbk HSb
    clear HLI
    go_upto_region 4 with fail
    go_cut [6] from 7 (fun v wx => ∃ s2 c2, v = .slice s2 (k + 1) c2 ∧ Hid (Sg.OL 36 6 W.heap.size wx s2 c2 (k + 1) ((l.take k ++ [t]).flatMap tC)) ∧ Hid (Below W.heap.size W wx))
    case first =>
      have HBd : Hid (∀ w', Below wc.heap.size wc w' → Below W.heap.size W w') := fun w' hb => HB.out.trans (hb.mono HB.out.size)
      refine wp_region_held_drew (S := fun w' => Below wc.heap.size wc w') (by kernel_rfl) (Below.refl _ _).drew (fun hHeld => ?_)
      refine Hl.takeL (i := 0) (d := 23) (v := ?_) rfl (by kernel_rfl) (by kernel_rfl) (by kernel_rfl) (fun _ _ _ h => h) (by rfl) ?_ (by first | assumption | trivial) ?_
      rotate_left
      · intro w hSw; skip; go_simp; (try with_reducible rfl)
      simp only [Act.put, List.setIfInBounds_toArray, List.set_cons_zero, List.set_cons_succ]
      refine Hl.takeL (i := 1) (d := 24) (v := ?_) rfl (by kernel_rfl) (by kernel_rfl) (by kernel_rfl) (fun _ _ _ h => h) (by rfl) ?_ (by first | assumption | trivial) ?_
      rotate_left
      · intro w hSw; skip; go_simp; (try with_reducible rfl)
      simp only [Act.put, List.setIfInBounds_toArray, List.set_cons_zero, List.set_cons_succ]
      refine Hl.takeL (i := 2) (d := 25) (v := ?_) rfl (by kernel_rfl) (by kernel_rfl) (by kernel_rfl) (fun _ _ _ h => h) (by rfl) ?_ (by first | assumption | trivial) ?_
      rotate_left
      · intro w hSw; skip; go_simp; (try with_reducible rfl)
      simp only [Act.put, List.setIfInBounds_toArray, List.set_cons_zero, List.set_cons_succ]
      refine Hl.takeL (i := 4) (d := 27) (v := ?_) rfl (by kernel_rfl) (by kernel_rfl) (by kernel_rfl) (fun _ _ _ h => h) (by rfl) ?_ (by first | assumption | trivial) ?_
      rotate_left
      · intro w hSw; obtain ⟨z0, z1, z2, z3, z4, z5⟩ : w.cell? ⟨W.heap.size, 0, none⟩ = some (.int .i64 t.kind) ∧ w.cell? ⟨W.heap.size, 1, none⟩ = some (.int .i64 t.at_) ∧ w.cell? ⟨W.heap.size, 2, none⟩ = some (.int .i64 t.cycle) ∧ w.cell? ⟨W.heap.size, 3, none⟩ = some (.int .i64 t.rep) ∧ w.cell? ⟨W.heap.size, 4, none⟩ = some (.int .i64 t.msg) ∧ w.cell? ⟨W.heap.size, 5, none⟩ = some (.int .i64 t.til) := ⟨(HR.out.on hSw).c 0 _ rfl, (HR.out.on hSw).c 1 _ rfl, (HR.out.on hSw).c 2 _ rfl, (HR.out.on hSw).c 3 _ rfl, (HR.out.on hSw).c 4 _ rfl, (HR.out.on hSw).c 5 _ rfl⟩; go_simp; (try with_reducible rfl)
      simp only [Act.put, List.setIfInBounds_toArray, List.set_cons_zero, List.set_cons_succ]
      refine Hl.consL2 (i := 3) (j := 5) rfl rfl (by kernel_rfl) (fun K' hK' => ?_) (fun K' hK' => ?_)
      · skip
        refine Sg.step_appendO elT rfl (.const (.slice none 0 0)) (.tmp 25) 33 rfl rfl rfl (Sg.OL.nil 36 6 wc.heap.size _) hHeld.size (HSf.out _ (HBd.out _ hHeld)) (show 0 + k ≤ 1000000 by omega) ?_
        intro s1 c1 n1 u1 hn1 h1 hk1
        rw [Nat.zero_add] at hn1
        replace hn1 := hn1.symm
        subst hn1
        rw [List.nil_append] at h1
        have hb1 : Below wc.heap.size wc u1 := hHeld.trans ((hk1.below (B := wc.drew.heap.size) (fun g hg => absurd hg.1 (Nat.lt_irrefl 0)) (Nat.le_refl _)).mono hHeld.size)
        refine hK'.out _ _ hb1 (fun _ => ?_)
        clear hK' K' hk1 hHeld
        refine Hl.consL (i := 5) rfl (by kernel_rfl) (fun K' hK' => ?_)
        have HSn : Hid (Src Tryd.prog 6 33 (.slice (some ⟨u1.heap.size, 0, none⟩) 1 1) 1 (tC t) (u1.alloc (.cells #[.int .i64 t.kind, .int .i64 t.at_, .int .i64 t.cycle, .int .i64 t.rep, .int .i64 t.msg, .int .i64 t.til] 36))) := Sg.src_new Tryd.underlying33 u1 36 6 1 _ rfl (tC_one t)
        have h2 := h1.on (w' := u1.alloc (.cells #[.int .i64 t.kind, .int .i64 t.at_, .int .i64 t.cycle, .int .i64 t.rep, .int .i64 t.msg, .int .i64 t.til] 36)) ((Below.refl _ _).alloc (Nat.le_refl _) _)
        have hb2 : Below wc.heap.size wc (u1.alloc (.cells #[.int .i64 t.kind, .int .i64 t.at_, .int .i64 t.cycle, .int .i64 t.rep, .int .i64 t.msg, .int .i64 t.til] 36)) := hb1.alloc hb1.size _
        go_simp
        refine hK'.out _ _ hb2 (fun _ => ?_)
        clear hK' K' h1 hb1
        refine Hl.consL (i := 6) rfl (by kernel_rfl) (fun K' hK' => ?_)
        refine Sg.step_appendO elT rfl (.tmp 26) (.tmp 28) 33 rfl rfl rfl h2 hb2.size HSn.out (show k + 1 ≤ 1000000 by omega) ?_
        intro s3 c3 n3 u3 hn3 h3 hk3
        subst hn3
        have hb4 : Below wc.heap.size wc u3 := hb2.trans (h2.below hk3 hb2.size)
        have h5 := h3.mono HB.out.size
        refine hK'.out _ _ hb4 (fun _ => ?_)
        clear hK' K' hk3 h3
        refine Hl.takeL (i := 7) (d := 6) (v := ?_) rfl (by kernel_rfl) (by kernel_rfl) (by kernel_rfl) (fun _ _ _ h => h) (by rfl) ?_ (by first | assumption | trivial) ?_
        rotate_left
        · intro w hSw; skip; go_simp; (try with_reducible rfl)
        simp only [Act.put, List.setIfInBounds_toArray, List.set_cons_zero, List.set_cons_succ]
        refine wpAnyH_done (by kernel_rfl) ?_ _
        go_wp2_with fail
        go_meet
        case rel => exact ⟨s3, c3, rfl, (show Sg.OL 36 6 W.heap.size u3 s3 c3 (k + 1) ((l.take k ++ [t]).flatMap tC) by rw [List.flatMap_append]; simpa using h5), HBd.out _ hb4⟩
      · skip
        go_simp
        refine hK'.out _ _ (hHeld.alloc (by simp) _) (fun hHeld2 => ?_)
        clear hK' K' 
        refine Hl.consL (i := 3) rfl (by kernel_rfl) (fun K' hK' => ?_)
        refine Sg.step_appendO elT rfl (.const (.slice none 0 0)) (.tmp 25) 33 rfl rfl rfl (Sg.OL.nil 36 6 wc.heap.size _) hHeld2.size (HSf.out _ (HBd.out _ hHeld2)) (show 0 + k ≤ 1000000 by omega) ?_
        intro s1 c1 n1 u1 hn1 h2 hk1
        rw [Nat.zero_add] at hn1
        replace hn1 := hn1.symm
        subst hn1
        rw [List.nil_append] at h2
        have hbx := hk1.below (fun g hg => absurd hg.1 (Nat.lt_irrefl 0)) (Nat.le_refl _)
        have rX : RowT 36 ((wc.alloc (.cells #[.int .i64 t.kind, .int .i64 t.at_, .int .i64 t.cycle, .int .i64 t.rep, .int .i64 t.msg, .int .i64 t.til] 36)).drew) wc.heap.size #[.int .i64 t.kind, .int .i64 t.at_, .int .i64 t.cycle, .int .i64 t.rep, .int .i64 t.msg, .int .i64 t.til] := (RowT.new 36 wc #[.int .i64 t.kind, .int .i64 t.at_, .int .i64 t.cycle, .int .i64 t.rep, .int .i64 t.msg, .int .i64 t.til]).on (Below.refl _ _).drew
        have rU : RowT 36 u1 wc.heap.size #[.int .i64 t.kind, .int .i64 t.at_, .int .i64 t.cycle, .int .i64 t.rep, .int .i64 t.msg, .int .i64 t.til] := rX.on hbx
        have hb2 : Below wc.heap.size wc u1 := hHeld2.trans (hbx.mono hHeld2.size)
        have HSn : Hid (Src Tryd.prog 6 33 (.slice (some ⟨wc.heap.size, 0, none⟩) 1 1) 1 (tC t) u1) := Sg.src_row Tryd.underlying33 6 1 (tC t) rfl (tC_one t) rU
        refine hK'.out _ _ hb2 (fun _ => ?_)
        clear hK' K' hk1 hHeld hHeld2 hbx rX rU
        refine Hl.consL (i := 6) rfl (by kernel_rfl) (fun K' hK' => ?_)
        refine Sg.step_appendO elT rfl (.tmp 26) (.tmp 28) 33 rfl rfl rfl h2 hb2.size HSn.out (show k + 1 ≤ 1000000 by omega) ?_
        intro s3 c3 n3 u3 hn3 h3 hk3
        subst hn3
        have hb4 : Below wc.heap.size wc u3 := hb2.trans (h2.below hk3 hb2.size)
        have h5 := h3.mono HB.out.size
        refine hK'.out _ _ hb4 (fun _ => ?_)
        clear hK' K' hk3 h3
        refine Hl.takeL (i := 7) (d := 6) (v := ?_) rfl (by kernel_rfl) (by kernel_rfl) (by kernel_rfl) (fun _ _ _ h => h) (by rfl) ?_ (by first | assumption | trivial) ?_
        rotate_left
        · intro w hSw; skip; go_simp; (try with_reducible rfl)
        simp only [Act.put, List.setIfInBounds_toArray, List.set_cons_zero, List.set_cons_succ]
        refine wpAnyH_done (by kernel_rfl) ?_ _
        go_wp2_with fail
        go_meet
        case rel => exact ⟨s3, c3, rfl, (show Sg.OL 36 6 W.heap.size u3 s3 c3 (k + 1) ((l.take k ++ [t]).flatMap tC) by rw [List.flatMap_append]; simpa using h5), HBd.out _ hb4⟩
    case rest =>
      obtain ⟨s2, c2, rfl, HO, HB2⟩ := hcut
      have HFin : Hid ((Yq.lay l t).length = k + 1 + (n - k) ∧ (l.take k ++ [t]).flatMap tC ++ (l.drop k).flatMap tC = (Yq.lay l t).flatMap tC) := by
        refine ⟨?_, ?_⟩
        · rw [Yq.len_lay, HN.out]; omega
        · rw [HLay.out, ← List.flatMap_append, List.append_assoc]; rfl
      clear HLay hfr HSf HR HB
      go_wp2_with (refine Sg.wpList_appendO elT rfl (.tmp 30) (.tmp 33) 33 rfl rfl rfl HO.out HB2.out.size (HSb.out _ HB2.out) (show k + 1 + (n - k) ≤ 1000000 by omega) ?_; intro s4 c4 n4 u4 hn4 h4 hk4; subst hn4)
      go_ret
      have hb4 := HB2.out.trans (HO.out.below hk4 HB2.out.size)
      rw [HFin.out.2] at h4
      exact ⟨s4, c4, _, HFin.out.1.symm, rfl, h4, hb4⟩
end Go.Proofs.YtnbfnipdiffphaaDoor
