/- The document's matrices, over their text: Same. -/
import Derived.Test.YtcdalfhmmipiaaaDoorB1
import Derived.Deep.CutBlock
namespace Go.Proofs.YtcdalfhmmipiaaaDoor
open Go.RowKit Go.WideShapes
set_option linter.unusedVariables false
theorem same_succ {α : Type} {l r : List α} {k : Nat} {x y : α} (hx : l[k]? = some x) (hy : r[k]? = some y) (hb : ∀ j a b, j < k → l[j]? = some a → r[j]? = some b → a = b) (h : x = y) : ∀ j a b, j < k + 1 → l[j]? = some a → r[j]? = some b → a = b := fun j a b hj ha hb' => by
  rcases Nat.lt_or_eq_of_le (Nat.le_of_lt_succ hj) with h1 | h1
  · exact hb j a b h1 ha hb'
  · subst h1
    rw [hx] at ha
    rw [hy] at hb'
    injection ha with ha
    injection hb' with hb'
    rw [← ha, ← hb', h]
namespace Mx
def head (m n : M) : Bool := m.level == n.level && m.nodes == n.nodes && m.cycles == n.cycles && m.length == n.length && m.enable == n.enable && m.unit == n.unit && m.init == n.init && m.ref == n.ref && m.masters.length == n.masters.length && m.messages.length == n.messages.length && m.windows.length == n.windows.length
theorem head_len {m n : M} (h : head m n = true) : m.masters.length = n.masters.length ∧ m.messages.length = n.messages.length ∧ m.windows.length = n.windows.length := by
  simp only [head, Bool.and_eq_true, beq_iff_eq] at h
  exact ⟨h.1.1.2, h.1.2, h.2⟩
theorem list_same {α : Type} {l r : List α} (hl : l.length = r.length) (h : ∀ (j : Nat) x y, l[j]? = some x → r[j]? = some y → x = y) : l = r := by
  apply List.ext_getElem? 
  intro j
  by_cases hj : j < l.length
  · have h1 := List.getElem?_eq_getElem hj
    have h2 := List.getElem?_eq_getElem (show j < r.length by omega)
    rw [h1, h2, h j _ _ h1 h2]
  · rw [List.getElem?_eq_none (by omega), List.getElem?_eq_none (by omega)]
theorem same_ways (m n : M) : (head m n = false → false = decide (m = n)) ∧ (∀ (k : Nat) x y, m.masters[k]? = some x → n.masters[k]? = some y → x ≠ y → false = decide (m = n)) ∧ (∀ (k : Nat) x y, m.messages[k]? = some x → n.messages[k]? = some y → x ≠ y → false = decide (m = n)) ∧ (∀ (k : Nat) x y, m.windows[k]? = some x → n.windows[k]? = some y → x ≠ y → false = decide (m = n)) ∧
    (head m n = true → (∀ (j : Nat) x y, m.masters[j]? = some x → n.masters[j]? = some y → x = y) → (∀ (j : Nat) x y, m.messages[j]? = some x → n.messages[j]? = some y → x = y) → (∀ (j : Nat) x y, m.windows[j]? = some x → n.windows[j]? = some y → x = y) → true = decide (m = n)) := by
  refine ⟨fun h => ?_, fun k x y hx hy hne => ?_, fun k x y hx hy hne => ?_, fun k x y hx hy hne => ?_, fun h h1 h2 h3 => ?_⟩
  · refine (decide_eq_false (fun e => ?_)).symm
    subst e
    simp [head] at h
  · refine (decide_eq_false (fun e => hne ?_)).symm
    subst e
    rw [hx] at hy
    injection hy
  · refine (decide_eq_false (fun e => hne ?_)).symm
    subst e
    rw [hx] at hy
    injection hy
  · refine (decide_eq_false (fun e => hne ?_)).symm
    subst e
    rw [hx] at hy
    injection hy
  · refine (decide_eq_true ?_).symm
    obtain ⟨q1, q2, q3⟩ := head_len h
    have e1 := list_same q1 h1
    have e2 := list_same q2 h2
    have e3 := list_same q3 h3
    obtain ⟨a0, a1, a2, a3, a4, a5, a6, a7, a8, a9, a10⟩ := m
    obtain ⟨b0, b1, b2, b3, b4, b5, b6, b7, b8, b9, b10⟩ := n
    simp only [head, Bool.and_eq_true, beq_iff_eq] at h
    dsimp only at e1 e2 e3
    obtain ⟨⟨⟨⟨⟨⟨⟨⟨⟨⟨c0, c1⟩, c2⟩, c3⟩, c4⟩, c5⟩, c6⟩, c7⟩, _⟩, _⟩, _⟩ := h
    subst c0 c1 c2 c3 c4 c5 c6 c7 e1 e2 e3
    rfl
end Mx
set_option maxRecDepth 100000 in
set_option maxHeartbeats 16000000 in
theorem rsame_any (w : World) (m n : Mx.M) (a b : Ma) (hm : MIn w m a) (hn : MIn w n b) (hS : Mx.Small m) (hT : Mx.Small n) : Calls Tryd.prog 15 #[mV m a, mV n b] w fun e w' => e = .returned (.bool (decide (m = n))) ∧ Below w.heap.size w w' := by
  have hb1 : Below w.heap.size w (w.alloc (.cells (mCs m a) 27)) := (Below.refl _ _).alloc (Nat.le_refl _) _
  have HX0 : Bx w (w.alloc (.cells (mCs m a) 27)) w.heap.size m a := Bx.mk' hm
  have HY0 := Bx.mk' (hn.on hb1)
  have hsz : (w.alloc (.cells (mCs m a) 27)).heap.size = w.heap.size + 1 := by simp
  rw [hsz] at HY0
  have HX : Hid (Bx w ((w.alloc (.cells (mCs m a) 27)).alloc (.cells (mCs n b) 27)) w.heap.size m a) := HX0.on ((Below.refl _ _).alloc (Nat.le_refl _) _)
  have HY : Hid (Bx w ((w.alloc (.cells (mCs m a) 27)).alloc (.cells (mCs n b) 27)) (w.heap.size + 1) n b) := ⟨HY0.row, HY0.mem, HX.out.below⟩
  have hl1 := hS.a
  have hl2 := hS.b
  have hl3 := hS.c
  have HI : Hid ((Mx.head m n = false → false = decide (m = n)) ∧ (∀ (k : Nat) x y, m.masters[k]? = some x → n.masters[k]? = some y → x ≠ y → false = decide (m = n)) ∧ (∀ (k : Nat) x y, m.messages[k]? = some x → n.messages[k]? = some y → x ≠ y → false = decide (m = n)) ∧ (∀ (k : Nat) x y, m.windows[k]? = some x → n.windows[k]? = some y → x ≠ y → false = decide (m = n)) ∧ (Mx.head m n = true → (∀ (j : Nat) x y, m.masters[j]? = some x → n.masters[j]? = some y → x = y) → (∀ (j : Nat) x y, m.messages[j]? = some x → n.messages[j]? = some y → x = y) → (∀ (j : Nat) x y, m.windows[j]? = some x → n.windows[j]? = some y → x = y) → true = decide (m = n))) := Mx.same_ways m n
  generalize decide (m = n) = R at HI ⊢
  obtain ⟨x0, x1, x2, x3, x4, x5, x6, x7, x8, x9, x10⟩ := HX.out.row.mat
  obtain ⟨y0, y1, y2, y3, y4, y5, y6, y7, y8, y9, y10⟩ := HY.out.row.mat
  show Calls _ _ #[.agg (mCs m a), .agg (mCs n b)] _ _
  generalize mCs m a = cs at HX HY x0 x1 x2 x3 x4 x5 x6 x7 x8 x9 x10 y0 y1 y2 y3 y4 y5 y6 y7 y8 y9 y10 ⊢
  generalize mCs n b = ds at HX HY x0 x1 x2 x3 x4 x5 x6 x7 x8 x9 x10 y0 y1 y2 y3 y4 y5 y6 y7 y8 y9 y10 ⊢
  clear hm hn hS hT hb1 HX0 HY0 hsz
  go_enter Tryd.func15, Tryd.ntmps15
  go_upto_region 1 with fail
  generalize (w.alloc (.cells cs 27)).alloc (.cells ds 27) = wB at HX HY x0 x1 x2 x3 x4 x5 x6 x7 x8 x9 x10 y0 y1 y2 y3 y4 y5 y6 y7 y8 y9 y10 ⊢
  go_cut [88] from 8 (fun v wx => v = .bool (!Mx.head m n) ∧ wx = wB)
  case first =>
    by_cases h0 : m.level = n.level
    · skip
      by_cases h1 : m.nodes = n.nodes
      · skip
        by_cases h2 : m.cycles = n.cycles
        · skip
          by_cases h3 : m.length = n.length
          · skip
            by_cases h4 : m.enable = n.enable
            · skip
              by_cases h5 : m.unit = n.unit
              · skip
                by_cases h6 : m.init = n.init
                · skip
                  by_cases h7 : m.ref = n.ref
                  · skip
                    by_cases h8 : m.masters.length = n.masters.length
                    · skip
                      by_cases h9 : m.messages.length = n.messages.length
                      · skip
                        by_cases h10 : m.windows.length = n.windows.length
                        · skip
                          as_aux_lemma =>
                            go_wp2_with fail
                            all_goals
                              go_meet
                              case rel => exact ⟨by first | (simp [Mx.head, h0, h1, h2, h3, h4, h5, h6, h7, h8, h9, h10]; done) | (simp [Mx.head, h0, h1, h2, h3, h4, h5, h6, h7, h8, h9, h10]; omega) | simp_all [Mx.head, h0, h1, h2, h3, h4, h5, h6, h7, h8, h9, h10], rfl⟩
                        · skip
                          have b10 : ((m.windows.length : Int) == (n.windows.length : Int)) = false := beq_eq_false_iff_ne.2 (by omega)
                          as_aux_lemma =>
                            go_wp2_with fail
                            all_goals
                              go_meet
                              case rel => exact ⟨by first | (simp [Mx.head, bne, h0, h1, h2, h3, h4, h5, h6, h7, h8, h9, h10, b10]; done) | (simp [Mx.head, bne, h0, h1, h2, h3, h4, h5, h6, h7, h8, h9, h10, b10]; omega) | simp_all [Mx.head, bne, h0, h1, h2, h3, h4, h5, h6, h7, h8, h9, h10, b10], rfl⟩
                      · skip
                        have b9 : ((m.messages.length : Int) == (n.messages.length : Int)) = false := beq_eq_false_iff_ne.2 (by omega)
                        as_aux_lemma =>
                          go_wp2_with fail
                          all_goals
                            go_meet
                            case rel => exact ⟨by first | (simp [Mx.head, h0, h1, h2, h3, h4, h5, h6, h7, h8, h9]; done) | (simp [Mx.head, h0, h1, h2, h3, h4, h5, h6, h7, h8, h9]; omega) | simp_all [Mx.head, h0, h1, h2, h3, h4, h5, h6, h7, h8, h9], rfl⟩
                    · skip
                      have b8 : ((m.masters.length : Int) == (n.masters.length : Int)) = false := beq_eq_false_iff_ne.2 (by omega)
                      as_aux_lemma =>
                        go_wp2_with fail
                        all_goals
                          go_meet
                          case rel => exact ⟨by first | (simp [Mx.head, h0, h1, h2, h3, h4, h5, h6, h7, h8]; done) | (simp [Mx.head, h0, h1, h2, h3, h4, h5, h6, h7, h8]; omega) | simp_all [Mx.head, h0, h1, h2, h3, h4, h5, h6, h7, h8], rfl⟩
                  · skip
                    have b7 : ((m.ref : Int) == (n.ref : Int)) = false := beq_eq_false_iff_ne.2 (by omega)
                    as_aux_lemma =>
                      go_wp2_with fail
                      all_goals
                        go_meet
                        case rel => exact ⟨by first | (simp [Mx.head, h0, h1, h2, h3, h4, h5, h6, h7]; done) | (simp [Mx.head, h0, h1, h2, h3, h4, h5, h6, h7]; omega) | simp_all [Mx.head, h0, h1, h2, h3, h4, h5, h6, h7], rfl⟩
                · skip
                  have b6 : (m.init == n.init) = false := beq_eq_false_iff_ne.2 h6
                  as_aux_lemma =>
                    go_wp2_with fail
                    all_goals
                      go_meet
                      case rel => exact ⟨by first | (simp [Mx.head, h0, h1, h2, h3, h4, h5, b6]; done) | (simp [Mx.head, h0, h1, h2, h3, h4, h5, b6]; omega) | simp_all [Mx.head, h0, h1, h2, h3, h4, h5, b6], rfl⟩
              · skip
                have b5 : (m.unit == n.unit) = false := beq_eq_false_iff_ne.2 h5
                as_aux_lemma =>
                  go_wp2_with fail
                  all_goals
                    go_meet
                    case rel => exact ⟨by first | (simp [Mx.head, h0, h1, h2, h3, h4, b5]; done) | (simp [Mx.head, h0, h1, h2, h3, h4, b5]; omega) | simp_all [Mx.head, h0, h1, h2, h3, h4, b5], rfl⟩
            · skip
              have b4 : (m.enable == n.enable) = false := beq_eq_false_iff_ne.2 h4
              as_aux_lemma =>
                go_wp2_with fail
                all_goals
                  go_meet
                  case rel => exact ⟨by first | (simp [Mx.head, h0, h1, h2, h3, b4]; done) | (simp [Mx.head, h0, h1, h2, h3, b4]; omega) | simp_all [Mx.head, h0, h1, h2, h3, b4], rfl⟩
          · skip
            have b3 : (m.length == n.length) = false := beq_eq_false_iff_ne.2 h3
            as_aux_lemma =>
              go_wp2_with fail
              all_goals
                go_meet
                case rel => exact ⟨by first | (simp [Mx.head, h0, h1, h2, b3]; done) | (simp [Mx.head, h0, h1, h2, b3]; omega) | simp_all [Mx.head, h0, h1, h2, b3], rfl⟩
        · skip
          have b2 : (m.cycles == n.cycles) = false := beq_eq_false_iff_ne.2 h2
          as_aux_lemma =>
            go_wp2_with fail
            all_goals
              go_meet
              case rel => exact ⟨by first | (simp [Mx.head, h0, h1, b2]; done) | (simp [Mx.head, h0, h1, b2]; omega) | simp_all [Mx.head, h0, h1, b2], rfl⟩
      · skip
        have b1 : (m.nodes == n.nodes) = false := beq_eq_false_iff_ne.2 h1
        as_aux_lemma =>
          go_wp2_with fail
          all_goals
            go_meet
            case rel => exact ⟨by first | (simp [Mx.head, h0, b1]; done) | (simp [Mx.head, h0, b1]; omega) | simp_all [Mx.head, h0, b1], rfl⟩
    · skip
      have b0 : (m.level == n.level) = false := beq_eq_false_iff_ne.2 h0
      as_aux_lemma =>
        go_wp2_with fail
        all_goals
          go_meet
          case rel => exact ⟨by first | (simp [Mx.head, b0]; done) | (simp [Mx.head, b0]; omega) | simp_all [Mx.head, b0], rfl⟩
  case rest =>
    obtain ⟨rfl, hwc⟩ := hcut
    rw [hwc]
    clear hwc
    cases hsc : Mx.head m n
    · have hR := HI.out.1 hsc
      subst hR
      go_wp2
      go_ret
      exact ⟨rfl, HX.out.below⟩
    · skip
      obtain ⟨q8, q9, q10⟩ := Mx.head_len hsc
      obtain ⟨n1, hn1⟩ : ∃ n1, m.masters.length = n1 := ⟨_, rfl⟩
      obtain ⟨n2, hn2⟩ : ∃ n2, m.messages.length = n2 := ⟨_, rfl⟩
      obtain ⟨n3, hn3⟩ : ∃ n3, m.windows.length = n3 := ⟨_, rfl⟩
      have HN : Hid ((m.masters.length = n1 ∧ m.messages.length = n2 ∧ m.windows.length = n3) ∧ (n.masters.length = n1 ∧ n.messages.length = n2 ∧ n.windows.length = n3)) := ⟨⟨hn1, hn2, hn3⟩, q8.symm.trans hn1, q9.symm.trans hn2, q10.symm.trans hn3⟩
      rw [hn1] at hl1
      rw [hn2] at hl2
      rw [hn3] at hl3
      clear hn1 hn2 hn3 q8 q9 q10 x0 x1 x2 x3 x4 x5 x6 x7 x8 x9 x10 y0 y1 y2 y3 y4 y5 y6 y7 y8 y9 y10
      have HY5 : Hid (∀ w', Bx w w' w.heap.size m a → w'.cell? ⟨w.heap.size, 8, none⟩ = some (.slice a.s1 n1 a.c1)) := fun w' h => by
        have := h.row.mat.2.2.2.2.2.2.2.2.1
        rw [HN.out.1.1] at this
        exact this
      have HZ5 : Hid (∀ w', Bx w w' (w.heap.size + 1) n b → w'.cell? ⟨w.heap.size + 1, 8, none⟩ = some (.slice b.s1 n1 b.c1)) := fun w' h => by
        have := h.row.mat.2.2.2.2.2.2.2.2.1
        rw [HN.out.2.1] at this
        exact this
      have z5 := HY5.out _ HX.out
      go_wp2_with fail
      go_loopw [5] (fun i wr => ∃ k : Nat, k ≤ n1 ∧ i = .int .i64 k ∧ Hid (Bx w wr w.heap.size m a) ∧ Hid (Bx w wr (w.heap.size + 1) n b) ∧ Hid (∀ (j : Nat) x y, j < k → m.masters[j]? = some x → n.masters[j]? = some y → x = y)) (fun i _ => n1 - (intOf i).toNat)
      case atStart => exact ⟨0, Nat.zero_le _, rfl, HX, HY, fun j x y h => absurd h (Nat.not_lt_zero _)⟩
      case round =>
        clear HX HY z5
        obtain ⟨k1, hk5, rfl, HX, HY, HF⟩ := hrel
        have z5 := HY5.out _ HX.out
        by_cases hlt : k1 < n1
        · obtain ⟨x, hx⟩ : ∃ x, m.masters[k1]? = some x := ⟨_, List.getElem?_eq_getElem (by have := HN.out; omega)⟩
          obtain ⟨y, hy⟩ : ∃ y, n.masters[k1]? = some y := ⟨_, List.getElem?_eq_getElem (by have := HN.out; omega)⟩
          obtain ⟨g1, o1, s1, _⟩ := HX.out.mem.master hx
          obtain ⟨g2, o2, s2, _⟩ := HY.out.mem.master hy
          have HC : Hid (∀ w', Below wr.heap.size wr w' → (w'.cell? ⟨w.heap.size, 8, none⟩ = some (.slice (some ⟨g1, o1, none⟩) n1 a.c1) ∧ w'.cell? ⟨w.heap.size + 1, 8, none⟩ = some (.slice (some ⟨g2, o2, none⟩) n1 b.c1)) ∧ (w'.cell? ⟨g1, o1 + k1, none⟩ = some (.int .i64 x)) ∧ (w'.cell? ⟨g2, o2 + k1, none⟩ = some (.int .i64 y))) := fun w' hb => by
            have hX := HX.out.on hb
            have hY := HY.out.on hb
            obtain ⟨g1', o1', s1', _, hc1⟩ := hX.mem.master hx
            obtain ⟨g2', o2', s2', _, hc2⟩ := hY.mem.master hy
            rw [s1] at s1'
            rw [s2] at s2'
            injection s1' with s1'
            injection s1' with e1 e2
            injection s2' with s2'
            injection s2' with e3 e4
            subst e1 e2 e3 e4
            have h1 := HY5.out _ hX
            have h2 := HZ5.out _ hY
            rw [s1] at h1
            rw [s2] at h2
            exact ⟨⟨h1, h2⟩, hc1, hc2⟩
          rw [s1] at z5
          have HXi : Hid (m.masters[k1]? = some x) := hx
          have HYi : Hid (n.masters[k1]? = some y) := hy
          clear s1 s2 hx hy
          by_cases he : x = y
          · subst he
            have HF2 : Hid (∀ (j : Nat) x y, j < k1 + 1 → m.masters[j]? = some x → n.masters[j]? = some y → x = y) := same_succ HXi.out HYi.out HF.out rfl
            clear HXi HYi
            go_wp2_with fail
            refine Lw.wp_region_quiet_below (by kernel_rfl) (by kernel_rfl) ?_
            repeat (first
              | go_big_quiet_skip
              | (go_big_quiet_want; go_big_quiet_op; go_big_quiet_on)
              | (go_big_quiet_want; go_big_quiet_op; apply Exists.intro; refine ⟨fun _ hb' => ?_, ?_⟩; (first
                | exact Lw.val_rfl _
                | (simp [go_sem, (HC.out _ hb').1.1]; rfl)
                | (simp [go_sem, (HC.out _ hb').1.2]; rfl)
                | (simp [go_sem, (HC.out _ hb').2.1]; rfl)
                | (simp [go_sem, (HC.out _ hb').2.2]; rfl)); go_big_quiet_on))
            refine wpQuiet_nil ?_
            intro w5 hb5
            have HX5 : Hid (Bx w w5 w.heap.size m a) := HX.out.on hb5
            have HY5 : Hid (Bx w w5 (w.heap.size + 1) n b) := HY.out.on hb5
            clear hb5 HC
            go_wp2
            first
              | exact ⟨⟨k1 + 1, by omega, by simp, HX5, HY5, HF2⟩, by simp [intOf]; omega⟩
              | (go_roundw; (case rel => exact ⟨k1 + 1, by omega, rfl, HX5, HY5, HF2⟩); (case measure => simp only [intOf]; omega))
              | (refine ⟨⟨_, _, _, _, _, _, _, _, _, _, _, _, _, _, _, _, _, _, _, _, ⟨k1 + 1, by omega, by simp, HX5, HY5, HF2⟩, rfl⟩, ?_⟩; simp [intOf]; omega)
          · have hR := HI.out.2.1 k1 x y HXi.out HYi.out he
            subst hR
            have hb0 : (x == y) = false := beq_eq_false_iff_ne.2 he
            clear HXi HYi HF
            go_wp2_with fail
            refine Lw.wp_region_quiet_below (by kernel_rfl) (by kernel_rfl) ?_
            repeat (first
              | go_big_quiet_skip
              | (go_big_quiet_want; go_big_quiet_op; go_big_quiet_on)
              | (go_big_quiet_want; go_big_quiet_op; apply Exists.intro; refine ⟨fun _ hb' => ?_, ?_⟩; (first
                | exact Lw.val_rfl _
                | (simp [go_sem, (HC.out _ hb').1.1]; rfl)
                | (simp [go_sem, (HC.out _ hb').1.2]; rfl)
                | (simp [go_sem, (HC.out _ hb').2.1]; rfl)
                | (simp [go_sem, (HC.out _ hb').2.2]; rfl)); go_big_quiet_on))
            refine wpQuiet_nil ?_
            intro w5 hb5
            have HX5 : Hid (Bx w w5 w.heap.size m a) := HX.out.on hb5
            clear hb5 HC
            go_wp2
            go_ret
            exact ⟨rfl, HX5.out.below⟩
        · have hkl : k1 = n1 := by omega
          have HQ5 : Hid (∀ (j : Nat) x y, m.masters[j]? = some x → n.masters[j]? = some y → x = y) := fun j x y hx hy => HF.out j x y (by have := (List.getElem?_eq_some_iff.1 hx).1; have := HN.out; omega) hx hy
          clear HF HZ5
          subst hkl
          have HY6 : Hid (∀ w', Bx w w' w.heap.size m a → w'.cell? ⟨w.heap.size, 9, none⟩ = some (.slice a.s2 n2 a.c2)) := fun w' h => by
            have := h.row.mat.2.2.2.2.2.2.2.2.2.1
            rw [HN.out.1.2.1] at this
            exact this
          have HZ6 : Hid (∀ w', Bx w w' (w.heap.size + 1) n b → w'.cell? ⟨w.heap.size + 1, 9, none⟩ = some (.slice b.s2 n2 b.c2)) := fun w' h => by
            have := h.row.mat.2.2.2.2.2.2.2.2.2.1
            rw [HN.out.2.2.1] at this
            exact this
          have z6 := HY6.out _ HX.out
          go_wp2_with fail
          go_loopw [6] (fun i wr => ∃ k : Nat, k ≤ n2 ∧ i = .int .i64 k ∧ Hid (Bx w wr w.heap.size m a) ∧ Hid (Bx w wr (w.heap.size + 1) n b) ∧ Hid (∀ (j : Nat) x y, j < k → m.messages[j]? = some x → n.messages[j]? = some y → x = y)) (fun i _ => n2 - (intOf i).toNat)
          case atStart => exact ⟨0, Nat.zero_le _, rfl, HX, HY, fun j x y h => absurd h (Nat.not_lt_zero _)⟩
          case round =>
            clear HX HY z6
            obtain ⟨k2, hk6, rfl, HX, HY, HF⟩ := hrel
            have z6 := HY6.out _ HX.out
            by_cases hlt : k2 < n2
            · obtain ⟨x, hx⟩ : ∃ x, m.messages[k2]? = some x := ⟨_, List.getElem?_eq_getElem (by have := HN.out; omega)⟩
              obtain ⟨y, hy⟩ : ∃ y, n.messages[k2]? = some y := ⟨_, List.getElem?_eq_getElem (by have := HN.out; omega)⟩
              obtain ⟨g1, o1, s1, _⟩ := HX.out.mem.message hx
              obtain ⟨g2, o2, s2, _⟩ := HY.out.mem.message hy
              have HC : Hid (∀ w', Below wr.heap.size wr w' → (w'.cell? ⟨w.heap.size, 9, none⟩ = some (.slice (some ⟨g1, o1, none⟩) n2 a.c2) ∧ w'.cell? ⟨w.heap.size + 1, 9, none⟩ = some (.slice (some ⟨g2, o2, none⟩) n2 b.c2)) ∧ (w'.cell? ⟨g1, o1 + k2 * 3, none⟩ = some (.int .u32 (x.id : Int)) ∧ w'.cell? ⟨g1, o1 + k2 * 3 + 1, none⟩ = some (.int .i64 x.owner) ∧ w'.cell? ⟨g1, o1 + k2 * 3 + 2, none⟩ = some (.bool x.event)) ∧ (w'.cell? ⟨g2, o2 + k2 * 3, none⟩ = some (.int .u32 (y.id : Int)) ∧ w'.cell? ⟨g2, o2 + k2 * 3 + 1, none⟩ = some (.int .i64 y.owner) ∧ w'.cell? ⟨g2, o2 + k2 * 3 + 2, none⟩ = some (.bool y.event))) := fun w' hb => by
                have hX := HX.out.on hb
                have hY := HY.out.on hb
                obtain ⟨g1', o1', s1', _, hc1⟩ := hX.mem.message hx
                obtain ⟨g2', o2', s2', _, hc2⟩ := hY.mem.message hy
                rw [s1] at s1'
                rw [s2] at s2'
                injection s1' with s1'
                injection s1' with e1 e2
                injection s2' with s2'
                injection s2' with e3 e4
                subst e1 e2 e3 e4
                have h1 := HY6.out _ hX
                have h2 := HZ6.out _ hY
                rw [s1] at h1
                rw [s2] at h2
                exact ⟨⟨h1, h2⟩, hc1, hc2⟩
              rw [s1] at z6
              have HXi : Hid (m.messages[k2]? = some x) := hx
              have HYi : Hid (n.messages[k2]? = some y) := hy
              clear s1 s2 hx hy
              obtain ⟨p0, p1, p2⟩ := x
              obtain ⟨r0, r1, r2⟩ := y
              dsimp only at HC
              by_cases e0 : p0 = r0
              · subst e0
                by_cases e1 : p1 = r1
                · subst e1
                  by_cases e2 : p2 = r2
                  · subst e2
                    have HF2 : Hid (∀ (j : Nat) x y, j < k2 + 1 → m.messages[j]? = some x → n.messages[j]? = some y → x = y) := same_succ HXi.out HYi.out HF.out rfl
                    clear HXi HYi
                    go_wp2_with fail
                    refine Lw.wp_region_quiet_below (by kernel_rfl) (by kernel_rfl) ?_
                    repeat (first
                      | go_big_quiet_skip
                      | (go_big_quiet_want; go_big_quiet_op; go_big_quiet_on)
                      | (go_big_quiet_want; go_big_quiet_op; apply Exists.intro; refine ⟨fun _ hb' => ?_, ?_⟩; (first
                        | exact Lw.val_rfl _
                        | (simp [go_sem, (HC.out _ hb').1.1]; rfl)
                        | (simp [go_sem, (HC.out _ hb').1.2]; rfl)
                        | (simp [go_sem, (HC.out _ hb').2.1.1, (HC.out _ hb').2.1.2.1, (HC.out _ hb').2.1.2.2]; rfl)
                        | (simp [go_sem, (HC.out _ hb').2.2.1, (HC.out _ hb').2.2.2.1, (HC.out _ hb').2.2.2.2]; rfl)); go_big_quiet_on))
                    refine wpQuiet_nil ?_
                    intro w5 hb5
                    have HX5 : Hid (Bx w w5 w.heap.size m a) := HX.out.on hb5
                    have HY5 : Hid (Bx w w5 (w.heap.size + 1) n b) := HY.out.on hb5
                    clear hb5 HC
                    go_wp2
                    first
                      | exact ⟨⟨k2 + 1, by omega, by simp, HX5, HY5, HF2⟩, by simp [intOf]; omega⟩
                      | (go_roundw; (case rel => exact ⟨k2 + 1, by omega, rfl, HX5, HY5, HF2⟩); (case measure => simp only [intOf]; omega))
                      | (refine ⟨⟨_, _, _, _, _, _, _, _, _, _, _, _, _, _, _, _, _, _, _, _, ⟨k2 + 1, by omega, by simp, HX5, HY5, HF2⟩, rfl⟩, ?_⟩; simp [intOf]; omega)
                  · have hR := HI.out.2.2.1 k2 _ _ HXi.out HYi.out (fun z => e2 (congrArg (·.event) z))
                    subst hR
                    have hb0 : (p2 == r2) = false := beq_eq_false_iff_ne.2 (e2)
                    clear HXi HYi HF
                    go_wp2_with fail
                    refine Lw.wp_region_quiet_below (by kernel_rfl) (by kernel_rfl) ?_
                    repeat (first
                      | go_big_quiet_skip
                      | (go_big_quiet_want; go_big_quiet_op; go_big_quiet_on)
                      | (go_big_quiet_want; go_big_quiet_op; apply Exists.intro; refine ⟨fun _ hb' => ?_, ?_⟩; (first
                        | exact Lw.val_rfl _
                        | (simp [go_sem, (HC.out _ hb').1.1]; rfl)
                        | (simp [go_sem, (HC.out _ hb').1.2]; rfl)
                        | (simp [go_sem, (HC.out _ hb').2.1.1, (HC.out _ hb').2.1.2.1, (HC.out _ hb').2.1.2.2]; rfl)
                        | (simp [go_sem, (HC.out _ hb').2.2.1, (HC.out _ hb').2.2.2.1, (HC.out _ hb').2.2.2.2]; rfl)); go_big_quiet_on))
                    refine wpQuiet_nil ?_
                    intro w5 hb5
                    have HX5 : Hid (Bx w w5 w.heap.size m a) := HX.out.on hb5
                    clear hb5 HC
                    go_wp2
                    go_ret
                    exact ⟨rfl, HX5.out.below⟩
                · have hR := HI.out.2.2.1 k2 _ _ HXi.out HYi.out (fun z => e1 (congrArg (·.owner) z))
                  subst hR
                  have hb0 : (p1 == r1) = false := beq_eq_false_iff_ne.2 (e1)
                  clear HXi HYi HF
                  go_wp2_with fail
                  refine Lw.wp_region_quiet_below (by kernel_rfl) (by kernel_rfl) ?_
                  repeat (first
                    | go_big_quiet_skip
                    | (go_big_quiet_want; go_big_quiet_op; go_big_quiet_on)
                    | (go_big_quiet_want; go_big_quiet_op; apply Exists.intro; refine ⟨fun _ hb' => ?_, ?_⟩; (first
                      | exact Lw.val_rfl _
                      | (simp [go_sem, (HC.out _ hb').1.1]; rfl)
                      | (simp [go_sem, (HC.out _ hb').1.2]; rfl)
                      | (simp [go_sem, (HC.out _ hb').2.1.1, (HC.out _ hb').2.1.2.1, (HC.out _ hb').2.1.2.2]; rfl)
                      | (simp [go_sem, (HC.out _ hb').2.2.1, (HC.out _ hb').2.2.2.1, (HC.out _ hb').2.2.2.2]; rfl)); go_big_quiet_on))
                  refine wpQuiet_nil ?_
                  intro w5 hb5
                  have HX5 : Hid (Bx w w5 w.heap.size m a) := HX.out.on hb5
                  clear hb5 HC
                  go_wp2
                  go_ret
                  exact ⟨rfl, HX5.out.below⟩
              · have hR := HI.out.2.2.1 k2 _ _ HXi.out HYi.out (fun z => e0 (congrArg (·.id) z))
                subst hR
                have hb0 : ((p0 : Int) == (r0 : Int)) = false := beq_eq_false_iff_ne.2 (by omega)
                clear HXi HYi HF
                go_wp2_with fail
                refine Lw.wp_region_quiet_below (by kernel_rfl) (by kernel_rfl) ?_
                repeat (first
                  | go_big_quiet_skip
                  | (go_big_quiet_want; go_big_quiet_op; go_big_quiet_on)
                  | (go_big_quiet_want; go_big_quiet_op; apply Exists.intro; refine ⟨fun _ hb' => ?_, ?_⟩; (first
                    | exact Lw.val_rfl _
                    | (simp [go_sem, (HC.out _ hb').1.1]; rfl)
                    | (simp [go_sem, (HC.out _ hb').1.2]; rfl)
                    | (simp [go_sem, (HC.out _ hb').2.1.1, (HC.out _ hb').2.1.2.1, (HC.out _ hb').2.1.2.2]; rfl)
                    | (simp [go_sem, (HC.out _ hb').2.2.1, (HC.out _ hb').2.2.2.1, (HC.out _ hb').2.2.2.2]; rfl)); go_big_quiet_on))
                refine wpQuiet_nil ?_
                intro w5 hb5
                have HX5 : Hid (Bx w w5 w.heap.size m a) := HX.out.on hb5
                clear hb5 HC
                go_wp2
                go_ret
                exact ⟨rfl, HX5.out.below⟩
            · have hkl : k2 = n2 := by omega
              have HQ6 : Hid (∀ (j : Nat) x y, m.messages[j]? = some x → n.messages[j]? = some y → x = y) := fun j x y hx hy => HF.out j x y (by have := (List.getElem?_eq_some_iff.1 hx).1; have := HN.out; omega) hx hy
              clear HF HZ6
              subst hkl
              have HY7 : Hid (∀ w', Bx w w' w.heap.size m a → w'.cell? ⟨w.heap.size, 10, none⟩ = some (.slice a.s3 n3 a.c3)) := fun w' h => by
                have := h.row.mat.2.2.2.2.2.2.2.2.2.2
                rw [HN.out.1.2.2] at this
                exact this
              have HZ7 : Hid (∀ w', Bx w w' (w.heap.size + 1) n b → w'.cell? ⟨w.heap.size + 1, 10, none⟩ = some (.slice b.s3 n3 b.c3)) := fun w' h => by
                have := h.row.mat.2.2.2.2.2.2.2.2.2.2
                rw [HN.out.2.2.2] at this
                exact this
              have z7 := HY7.out _ HX.out
              go_wp2_with fail
              go_loopw [7] (fun i wr => ∃ k : Nat, k ≤ n3 ∧ i = .int .i64 k ∧ Hid (Bx w wr w.heap.size m a) ∧ Hid (Bx w wr (w.heap.size + 1) n b) ∧ Hid (∀ (j : Nat) x y, j < k → m.windows[j]? = some x → n.windows[j]? = some y → x = y)) (fun i _ => n3 - (intOf i).toNat)
              case atStart => exact ⟨0, Nat.zero_le _, rfl, HX, HY, fun j x y h => absurd h (Nat.not_lt_zero _)⟩
              case round =>
                clear HX HY z7
                obtain ⟨k3, hk7, rfl, HX, HY, HF⟩ := hrel
                have z7 := HY7.out _ HX.out
                by_cases hlt : k3 < n3
                · obtain ⟨x, hx⟩ : ∃ x, m.windows[k3]? = some x := ⟨_, List.getElem?_eq_getElem (by have := HN.out; omega)⟩
                  obtain ⟨y, hy⟩ : ∃ y, n.windows[k3]? = some y := ⟨_, List.getElem?_eq_getElem (by have := HN.out; omega)⟩
                  obtain ⟨g1, o1, s1, _⟩ := HX.out.mem.window hx
                  obtain ⟨g2, o2, s2, _⟩ := HY.out.mem.window hy
                  have HC : Hid (∀ w', Below wr.heap.size wr w' → (w'.cell? ⟨w.heap.size, 10, none⟩ = some (.slice (some ⟨g1, o1, none⟩) n3 a.c3) ∧ w'.cell? ⟨w.heap.size + 1, 10, none⟩ = some (.slice (some ⟨g2, o2, none⟩) n3 b.c3)) ∧ (w'.cell? ⟨g1, o1 + k3 * 6, none⟩ = some (.int .i64 x.kind) ∧ w'.cell? ⟨g1, o1 + k3 * 6 + 1, none⟩ = some (.int .i64 x.start) ∧ w'.cell? ⟨g1, o1 + k3 * 6 + 2, none⟩ = some (.int .i64 x.fin) ∧ w'.cell? ⟨g1, o1 + k3 * 6 + 3, none⟩ = some (.int .i64 x.cycle) ∧ w'.cell? ⟨g1, o1 + k3 * 6 + 4, none⟩ = some (.int .i64 x.rep) ∧ w'.cell? ⟨g1, o1 + k3 * 6 + 5, none⟩ = some (.int .i64 x.msg)) ∧ (w'.cell? ⟨g2, o2 + k3 * 6, none⟩ = some (.int .i64 y.kind) ∧ w'.cell? ⟨g2, o2 + k3 * 6 + 1, none⟩ = some (.int .i64 y.start) ∧ w'.cell? ⟨g2, o2 + k3 * 6 + 2, none⟩ = some (.int .i64 y.fin) ∧ w'.cell? ⟨g2, o2 + k3 * 6 + 3, none⟩ = some (.int .i64 y.cycle) ∧ w'.cell? ⟨g2, o2 + k3 * 6 + 4, none⟩ = some (.int .i64 y.rep) ∧ w'.cell? ⟨g2, o2 + k3 * 6 + 5, none⟩ = some (.int .i64 y.msg))) := fun w' hb => by
                    have hX := HX.out.on hb
                    have hY := HY.out.on hb
                    obtain ⟨g1', o1', s1', _, hc1⟩ := hX.mem.window hx
                    obtain ⟨g2', o2', s2', _, hc2⟩ := hY.mem.window hy
                    rw [s1] at s1'
                    rw [s2] at s2'
                    injection s1' with s1'
                    injection s1' with e1 e2
                    injection s2' with s2'
                    injection s2' with e3 e4
                    subst e1 e2 e3 e4
                    have h1 := HY7.out _ hX
                    have h2 := HZ7.out _ hY
                    rw [s1] at h1
                    rw [s2] at h2
                    exact ⟨⟨h1, h2⟩, hc1, hc2⟩
                  rw [s1] at z7
                  have HXi : Hid (m.windows[k3]? = some x) := hx
                  have HYi : Hid (n.windows[k3]? = some y) := hy
                  clear s1 s2 hx hy
                  obtain ⟨p0, p1, p2, p3, p4, p5⟩ := x
                  obtain ⟨r0, r1, r2, r3, r4, r5⟩ := y
                  dsimp only at HC
                  by_cases e0 : p0 = r0
                  · subst e0
                    by_cases e1 : p1 = r1
                    · subst e1
                      by_cases e2 : p2 = r2
                      · subst e2
                        by_cases e3 : p3 = r3
                        · subst e3
                          by_cases e4 : p4 = r4
                          · subst e4
                            by_cases e5 : p5 = r5
                            · subst e5
                              have HF2 : Hid (∀ (j : Nat) x y, j < k3 + 1 → m.windows[j]? = some x → n.windows[j]? = some y → x = y) := same_succ HXi.out HYi.out HF.out rfl
                              clear HXi HYi
                              go_wp2_with fail
                              refine Lw.wp_region_quiet_below (by kernel_rfl) (by kernel_rfl) ?_
                              repeat (first
                                | go_big_quiet_skip
                                | (go_big_quiet_want; go_big_quiet_op; go_big_quiet_on)
                                | (go_big_quiet_want; go_big_quiet_op; apply Exists.intro; refine ⟨fun _ hb' => ?_, ?_⟩; (first
                                  | exact Lw.val_rfl _
                                  | (simp [go_sem, (HC.out _ hb').1.1]; rfl)
                                  | (simp [go_sem, (HC.out _ hb').1.2]; rfl)
                                  | (simp [go_sem, (HC.out _ hb').2.1.1, (HC.out _ hb').2.1.2.1, (HC.out _ hb').2.1.2.2.1, (HC.out _ hb').2.1.2.2.2.1, (HC.out _ hb').2.1.2.2.2.2.1, (HC.out _ hb').2.1.2.2.2.2.2]; rfl)
                                  | (simp [go_sem, (HC.out _ hb').2.2.1, (HC.out _ hb').2.2.2.1, (HC.out _ hb').2.2.2.2.1, (HC.out _ hb').2.2.2.2.2.1, (HC.out _ hb').2.2.2.2.2.2.1, (HC.out _ hb').2.2.2.2.2.2.2]; rfl)); go_big_quiet_on))
                              refine wpQuiet_nil ?_
                              intro w5 hb5
                              have HX5 : Hid (Bx w w5 w.heap.size m a) := HX.out.on hb5
                              have HY5 : Hid (Bx w w5 (w.heap.size + 1) n b) := HY.out.on hb5
                              clear hb5 HC
                              go_wp2
                              first
                                | exact ⟨⟨k3 + 1, by omega, by simp, HX5, HY5, HF2⟩, by simp [intOf]; omega⟩
                                | (go_roundw; (case rel => exact ⟨k3 + 1, by omega, rfl, HX5, HY5, HF2⟩); (case measure => simp only [intOf]; omega))
                                | (refine ⟨⟨_, _, _, _, _, _, _, _, _, _, _, _, _, _, _, _, _, _, _, _, ⟨k3 + 1, by omega, by simp, HX5, HY5, HF2⟩, rfl⟩, ?_⟩; simp [intOf]; omega)
                            · have hR := HI.out.2.2.2.1 k3 _ _ HXi.out HYi.out (fun z => e5 (congrArg (·.msg) z))
                              subst hR
                              have hb0 : (p5 == r5) = false := beq_eq_false_iff_ne.2 (e5)
                              clear HXi HYi HF
                              go_wp2_with fail
                              refine Lw.wp_region_quiet_below (by kernel_rfl) (by kernel_rfl) ?_
                              repeat (first
                                | go_big_quiet_skip
                                | (go_big_quiet_want; go_big_quiet_op; go_big_quiet_on)
                                | (go_big_quiet_want; go_big_quiet_op; apply Exists.intro; refine ⟨fun _ hb' => ?_, ?_⟩; (first
                                  | exact Lw.val_rfl _
                                  | (simp [go_sem, (HC.out _ hb').1.1]; rfl)
                                  | (simp [go_sem, (HC.out _ hb').1.2]; rfl)
                                  | (simp [go_sem, (HC.out _ hb').2.1.1, (HC.out _ hb').2.1.2.1, (HC.out _ hb').2.1.2.2.1, (HC.out _ hb').2.1.2.2.2.1, (HC.out _ hb').2.1.2.2.2.2.1, (HC.out _ hb').2.1.2.2.2.2.2]; rfl)
                                  | (simp [go_sem, (HC.out _ hb').2.2.1, (HC.out _ hb').2.2.2.1, (HC.out _ hb').2.2.2.2.1, (HC.out _ hb').2.2.2.2.2.1, (HC.out _ hb').2.2.2.2.2.2.1, (HC.out _ hb').2.2.2.2.2.2.2]; rfl)); go_big_quiet_on))
                              refine wpQuiet_nil ?_
                              intro w5 hb5
                              have HX5 : Hid (Bx w w5 w.heap.size m a) := HX.out.on hb5
                              clear hb5 HC
                              go_wp2
                              go_ret
                              exact ⟨rfl, HX5.out.below⟩
                          · have hR := HI.out.2.2.2.1 k3 _ _ HXi.out HYi.out (fun z => e4 (congrArg (·.rep) z))
                            subst hR
                            have hb0 : (p4 == r4) = false := beq_eq_false_iff_ne.2 (e4)
                            clear HXi HYi HF
                            go_wp2_with fail
                            refine Lw.wp_region_quiet_below (by kernel_rfl) (by kernel_rfl) ?_
                            repeat (first
                              | go_big_quiet_skip
                              | (go_big_quiet_want; go_big_quiet_op; go_big_quiet_on)
                              | (go_big_quiet_want; go_big_quiet_op; apply Exists.intro; refine ⟨fun _ hb' => ?_, ?_⟩; (first
                                | exact Lw.val_rfl _
                                | (simp [go_sem, (HC.out _ hb').1.1]; rfl)
                                | (simp [go_sem, (HC.out _ hb').1.2]; rfl)
                                | (simp [go_sem, (HC.out _ hb').2.1.1, (HC.out _ hb').2.1.2.1, (HC.out _ hb').2.1.2.2.1, (HC.out _ hb').2.1.2.2.2.1, (HC.out _ hb').2.1.2.2.2.2.1, (HC.out _ hb').2.1.2.2.2.2.2]; rfl)
                                | (simp [go_sem, (HC.out _ hb').2.2.1, (HC.out _ hb').2.2.2.1, (HC.out _ hb').2.2.2.2.1, (HC.out _ hb').2.2.2.2.2.1, (HC.out _ hb').2.2.2.2.2.2.1, (HC.out _ hb').2.2.2.2.2.2.2]; rfl)); go_big_quiet_on))
                            refine wpQuiet_nil ?_
                            intro w5 hb5
                            have HX5 : Hid (Bx w w5 w.heap.size m a) := HX.out.on hb5
                            clear hb5 HC
                            go_wp2
                            go_ret
                            exact ⟨rfl, HX5.out.below⟩
                        · have hR := HI.out.2.2.2.1 k3 _ _ HXi.out HYi.out (fun z => e3 (congrArg (·.cycle) z))
                          subst hR
                          have hb0 : (p3 == r3) = false := beq_eq_false_iff_ne.2 (e3)
                          clear HXi HYi HF
                          go_wp2_with fail
                          refine Lw.wp_region_quiet_below (by kernel_rfl) (by kernel_rfl) ?_
                          repeat (first
                            | go_big_quiet_skip
                            | (go_big_quiet_want; go_big_quiet_op; go_big_quiet_on)
                            | (go_big_quiet_want; go_big_quiet_op; apply Exists.intro; refine ⟨fun _ hb' => ?_, ?_⟩; (first
                              | exact Lw.val_rfl _
                              | (simp [go_sem, (HC.out _ hb').1.1]; rfl)
                              | (simp [go_sem, (HC.out _ hb').1.2]; rfl)
                              | (simp [go_sem, (HC.out _ hb').2.1.1, (HC.out _ hb').2.1.2.1, (HC.out _ hb').2.1.2.2.1, (HC.out _ hb').2.1.2.2.2.1, (HC.out _ hb').2.1.2.2.2.2.1, (HC.out _ hb').2.1.2.2.2.2.2]; rfl)
                              | (simp [go_sem, (HC.out _ hb').2.2.1, (HC.out _ hb').2.2.2.1, (HC.out _ hb').2.2.2.2.1, (HC.out _ hb').2.2.2.2.2.1, (HC.out _ hb').2.2.2.2.2.2.1, (HC.out _ hb').2.2.2.2.2.2.2]; rfl)); go_big_quiet_on))
                          refine wpQuiet_nil ?_
                          intro w5 hb5
                          have HX5 : Hid (Bx w w5 w.heap.size m a) := HX.out.on hb5
                          clear hb5 HC
                          go_wp2
                          go_ret
                          exact ⟨rfl, HX5.out.below⟩
                      · have hR := HI.out.2.2.2.1 k3 _ _ HXi.out HYi.out (fun z => e2 (congrArg (·.fin) z))
                        subst hR
                        have hb0 : (p2 == r2) = false := beq_eq_false_iff_ne.2 (e2)
                        clear HXi HYi HF
                        go_wp2_with fail
                        refine Lw.wp_region_quiet_below (by kernel_rfl) (by kernel_rfl) ?_
                        repeat (first
                          | go_big_quiet_skip
                          | (go_big_quiet_want; go_big_quiet_op; go_big_quiet_on)
                          | (go_big_quiet_want; go_big_quiet_op; apply Exists.intro; refine ⟨fun _ hb' => ?_, ?_⟩; (first
                            | exact Lw.val_rfl _
                            | (simp [go_sem, (HC.out _ hb').1.1]; rfl)
                            | (simp [go_sem, (HC.out _ hb').1.2]; rfl)
                            | (simp [go_sem, (HC.out _ hb').2.1.1, (HC.out _ hb').2.1.2.1, (HC.out _ hb').2.1.2.2.1, (HC.out _ hb').2.1.2.2.2.1, (HC.out _ hb').2.1.2.2.2.2.1, (HC.out _ hb').2.1.2.2.2.2.2]; rfl)
                            | (simp [go_sem, (HC.out _ hb').2.2.1, (HC.out _ hb').2.2.2.1, (HC.out _ hb').2.2.2.2.1, (HC.out _ hb').2.2.2.2.2.1, (HC.out _ hb').2.2.2.2.2.2.1, (HC.out _ hb').2.2.2.2.2.2.2]; rfl)); go_big_quiet_on))
                        refine wpQuiet_nil ?_
                        intro w5 hb5
                        have HX5 : Hid (Bx w w5 w.heap.size m a) := HX.out.on hb5
                        clear hb5 HC
                        go_wp2
                        go_ret
                        exact ⟨rfl, HX5.out.below⟩
                    · have hR := HI.out.2.2.2.1 k3 _ _ HXi.out HYi.out (fun z => e1 (congrArg (·.start) z))
                      subst hR
                      have hb0 : (p1 == r1) = false := beq_eq_false_iff_ne.2 (e1)
                      clear HXi HYi HF
                      go_wp2_with fail
                      refine Lw.wp_region_quiet_below (by kernel_rfl) (by kernel_rfl) ?_
                      repeat (first
                        | go_big_quiet_skip
                        | (go_big_quiet_want; go_big_quiet_op; go_big_quiet_on)
                        | (go_big_quiet_want; go_big_quiet_op; apply Exists.intro; refine ⟨fun _ hb' => ?_, ?_⟩; (first
                          | exact Lw.val_rfl _
                          | (simp [go_sem, (HC.out _ hb').1.1]; rfl)
                          | (simp [go_sem, (HC.out _ hb').1.2]; rfl)
                          | (simp [go_sem, (HC.out _ hb').2.1.1, (HC.out _ hb').2.1.2.1, (HC.out _ hb').2.1.2.2.1, (HC.out _ hb').2.1.2.2.2.1, (HC.out _ hb').2.1.2.2.2.2.1, (HC.out _ hb').2.1.2.2.2.2.2]; rfl)
                          | (simp [go_sem, (HC.out _ hb').2.2.1, (HC.out _ hb').2.2.2.1, (HC.out _ hb').2.2.2.2.1, (HC.out _ hb').2.2.2.2.2.1, (HC.out _ hb').2.2.2.2.2.2.1, (HC.out _ hb').2.2.2.2.2.2.2]; rfl)); go_big_quiet_on))
                      refine wpQuiet_nil ?_
                      intro w5 hb5
                      have HX5 : Hid (Bx w w5 w.heap.size m a) := HX.out.on hb5
                      clear hb5 HC
                      go_wp2
                      go_ret
                      exact ⟨rfl, HX5.out.below⟩
                  · have hR := HI.out.2.2.2.1 k3 _ _ HXi.out HYi.out (fun z => e0 (congrArg (·.kind) z))
                    subst hR
                    have hb0 : (p0 == r0) = false := beq_eq_false_iff_ne.2 (e0)
                    clear HXi HYi HF
                    go_wp2_with fail
                    refine Lw.wp_region_quiet_below (by kernel_rfl) (by kernel_rfl) ?_
                    repeat (first
                      | go_big_quiet_skip
                      | (go_big_quiet_want; go_big_quiet_op; go_big_quiet_on)
                      | (go_big_quiet_want; go_big_quiet_op; apply Exists.intro; refine ⟨fun _ hb' => ?_, ?_⟩; (first
                        | exact Lw.val_rfl _
                        | (simp [go_sem, (HC.out _ hb').1.1]; rfl)
                        | (simp [go_sem, (HC.out _ hb').1.2]; rfl)
                        | (simp [go_sem, (HC.out _ hb').2.1.1, (HC.out _ hb').2.1.2.1, (HC.out _ hb').2.1.2.2.1, (HC.out _ hb').2.1.2.2.2.1, (HC.out _ hb').2.1.2.2.2.2.1, (HC.out _ hb').2.1.2.2.2.2.2]; rfl)
                        | (simp [go_sem, (HC.out _ hb').2.2.1, (HC.out _ hb').2.2.2.1, (HC.out _ hb').2.2.2.2.1, (HC.out _ hb').2.2.2.2.2.1, (HC.out _ hb').2.2.2.2.2.2.1, (HC.out _ hb').2.2.2.2.2.2.2]; rfl)); go_big_quiet_on))
                    refine wpQuiet_nil ?_
                    intro w5 hb5
                    have HX5 : Hid (Bx w w5 w.heap.size m a) := HX.out.on hb5
                    clear hb5 HC
                    go_wp2
                    go_ret
                    exact ⟨rfl, HX5.out.below⟩
                · have hkl : k3 = n3 := by omega
                  have HQ7 : Hid (∀ (j : Nat) x y, m.windows[j]? = some x → n.windows[j]? = some y → x = y) := fun j x y hx hy => HF.out j x y (by have := (List.getElem?_eq_some_iff.1 hx).1; have := HN.out; omega) hx hy
                  clear HF HZ7
                  subst hkl
                  have hR := HI.out.2.2.2.2 hsc HQ5.out HQ6.out HQ7.out
                  subst hR
                  go_wp2
                  go_ret
                  exact ⟨rfl, HX.out.below⟩
end Go.Proofs.YtcdalfhmmipiaaaDoor
