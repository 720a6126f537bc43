/- Layer 15: what package plan is said to do, whatever it is made of; law 15's own few, same. -/
import Derived.Test.YtlfhneiddfgoaaaDoorYa
import Derived.Test.YtlfhneiddfgoaaaDoorBc
import Derived.Test.YtlfhneiddfgoaaaDoorU2
namespace Go.Proofs.YtlfhneiddfgoaaaDoor
open Go.RowKit Go.WideShapes
set_option linter.unusedVariables false
/-- A call that tells triggers. -/
def Tells (P : Program) (f : FuncId) (args : Array Value) (w : World) (l : List Yq.Tr) : Prop := Calls P f args w fun e w' => ∃ s c n, n = l.length ∧ e = .returned (.slice s n c) ∧ LI w' s c n (l.flatMap tC) ∧ Below w.heap.size w w'
structure PlanSpec (Q : World → Prop) : Prop where
  plan : ∀ (w : World) (m : Mx.M) (a : Ma) (who : Int), Q w → MIn w m a → Mx.Small m → Mx.Wf m → (Lit.int .i64 who).wf = true → Tells Tryd.prog 12 #[mV m a, .int .i64 who] w (Yq.plan m who)
  due : ∀ (w : World) (l : List Yq.Tr) (s : Option Addr) (c : Nat) (cy lo hi : Int), Q w → LI w s c l.length (l.flatMap tC) → l.length ≤ 1000 → (∀ t ∈ l, Yq.Wf t) → (Lit.int .i64 cy).wf = true → (Lit.int .i64 lo).wf = true → (Lit.int .i64 hi).wf = true → Tells Tryd.prog 18 #[.slice s l.length c, .int .i64 cy, .int .i64 lo, .int .i64 hi] w (Yq.due l cy lo hi)
  beat : ∀ (w : World) (m : Mx.M) (a : Ma) (r : Int), Q w → MIn w m a → Mx.Small m → Mx.Wf m → (Lit.int .i64 r).wf = true → Ob.Looks Tryd.prog 14 #[mV m a, .int .i64 r] w (.int .i64 (Yq.beat m r))
  watch : ∀ (w : World) (m : Mx.M) (a : Ma), Q w → MIn w m a → Mx.Small m → Mx.Wf m → Ob.Looks Tryd.prog 16 #[mV m a] w (.int .i64 (Yq.watch m))
set_option maxRecDepth 100000 in
set_option maxHeartbeats 1000000 in
theorem few15_any (w : World) (m : Mx.M) (a : Ma) : Ob.Looks Tryd.prog 10 #[mV m a] w (.bool (Mx.few m)) := by
  have HR : RowT 27 (w.alloc (.cells (mCs m a) 27)) w.heap.size (mCs m a) := RowT.new _ _ _
  obtain ⟨_, _, _, _, _, _, _, _, x8, x9, x10⟩ := HR.mat
  unfold Ob.Looks
  show Calls _ _ #[.agg (mCs m a)] _ _
  generalize mCs m a = cs at x8 x9 x10 ⊢
  clear HR
  unfold Mx.few
  generalize m.masters.length = n1 at x8 ⊢
  generalize m.messages.length = n2 at x9 ⊢
  generalize m.windows.length = n3 at x10 ⊢
  by_cases h1 : n1 ≤ 10
  · have i1 : (n1 : Int) ≤ 10 := by omega
    by_cases h2 : n2 ≤ 20
    · have i2 : (n2 : Int) ≤ 20 := by omega
      by_cases h3 : n3 ≤ 25
      · have i3 : (n3 : Int) ≤ 25 := by omega
        go_enter Tryd.func10, Tryd.ntmps10
        go_wp2
        go_ret
        exact ⟨by simp_all, (Below.refl _ _).alloc (Nat.le_refl _) _⟩
      · have i3 : ¬ ((n3 : Int) ≤ 25) := by omega
        go_enter Tryd.func10, Tryd.ntmps10
        go_wp2
        go_ret
        exact ⟨by simp_all, (Below.refl _ _).alloc (Nat.le_refl _) _⟩
    · have i2 : ¬ ((n2 : Int) ≤ 20) := by omega
      go_enter Tryd.func10, Tryd.ntmps10
      go_wp2
      go_ret
      exact ⟨by simp_all, (Below.refl _ _).alloc (Nat.le_refl _) _⟩
  · have i1 : ¬ ((n1 : Int) ≤ 10) := by omega
    go_enter Tryd.func10, Tryd.ntmps10
    go_wp2
    go_ret
    exact ⟨by simp_all, (Below.refl _ _).alloc (Nat.le_refl _) _⟩
namespace Yq
theorem lsucc {l r : List Tr} {k : Nat} {x y : Tr} (hx : l[k]? = some x) (hy : r[k]? = some y) (hb : ∀ j a b, j < k → l[j]? = some a → r[j]? = some b → a = b) (h : x = y) : ∀ j a b, j < k + 1 → l[j]? = some a → r[j]? = some b → a = b := fun j a b hj ha hb' => by
  rcases Nat.lt_or_eq_of_le (Nat.le_of_lt_succ hj) with h1 | h1
  · exact hb j a b h1 ha hb'
  · subst h1
    rw [hx] at ha
    rw [hy] at hb'
    injection ha with ha
    injection hb' with hb'
    rw [← ha, ← hb', h]
theorem lsame {l r : List Tr} (hl : l.length = r.length) (h : ∀ (j : Nat) x y, l[j]? = some x → r[j]? = some y → x = y) : l = r := by
  apply List.ext_getElem?
  intro j
  by_cases hj : j < l.length
  · have h1 := List.getElem?_eq_getElem hj
    have h2 := List.getElem?_eq_getElem (show j < r.length by omega)
    rw [h1, h2, h j _ _ h1 h2]
  · rw [List.getElem?_eq_none (by omega), List.getElem?_eq_none (by omega)]
theorem lother {l r : List Tr} {k : Nat} {x y : Tr} (hx : l[k]? = some x) (hy : r[k]? = some y) (h : x ≠ y) : false = decide (l = r) := by
  refine (decide_eq_false (fun e => h ?_)).symm
  subst e
  rw [hx] at hy
  injection hy
end Yq
/-- The trigger at a place. -/
theorem LI.trig {w : World} {s : Option Addr} {c : Nat} {l : List Yq.Tr} (h : LI w s c l.length (l.flatMap tC)) {i : Nat} {t : Yq.Tr} (ht : l[i]? = some t) : ∃ g o, s = some ⟨g, o, none⟩ ∧ ∀ w', Below w.heap.size w w' → w'.cell? ⟨g, o + i * 6, none⟩ = some (.int .i64 t.kind) ∧ w'.cell? ⟨g, o + i * 6 + 1, none⟩ = some (.int .i64 t.at_) ∧ w'.cell? ⟨g, o + i * 6 + 2, none⟩ = some (.int .i64 t.cycle) ∧ w'.cell? ⟨g, o + i * 6 + 3, none⟩ = some (.int .i64 t.rep) ∧ w'.cell? ⟨g, o + i * 6 + 4, none⟩ = some (.int .i64 t.msg) ∧ w'.cell? ⟨g, o + i * 6 + 5, none⟩ = some (.int .i64 t.til) := by
  obtain ⟨g, o, hs, hg, _⟩ := h.at (sz := 6) (fun _ => rfl) i t ht
  refine ⟨g, o, hs, fun w' hb => ?_⟩
  obtain ⟨g', o', hs', _, hc⟩ := (h.on hb).at (sz := 6) (fun _ => rfl) i t ht
  rw [hs] at hs'
  injection hs' with hs'
  injection hs' with e1 e2
  subst e1 e2
  refine ⟨?_, ?_, ?_, ?_, ?_, ?_⟩
  · have := hc 0 _ rfl; rwa [Nat.add_zero] at this
  · have := hc 1 _ rfl; rwa [← Nat.add_assoc] at this
  · have := hc 2 _ rfl; rwa [← Nat.add_assoc] at this
  · have := hc 3 _ rfl; rwa [← Nat.add_assoc] at this
  · have := hc 4 _ rfl; rwa [← Nat.add_assoc] at this
  · have := hc 5 _ rfl; rwa [← Nat.add_assoc] at this
set_option maxRecDepth 100000 in
set_option maxHeartbeats 4000000 in
theorem same15_any (w : World) (l r : List Yq.Tr) (s t : Option Addr) (c d : Nat) (h : LI w s c l.length (l.flatMap tC)) (h2 : LI w t d r.length (r.flatMap tC)) (hl : l.length ≤ 1000) (hr : r.length ≤ 1000) : Calls Tryd.prog 11 #[.slice s l.length c, .slice t r.length d] w fun e w' => e = .returned (.bool (decide (l = r))) ∧ Below w.heap.size w w' := by
  by_cases hn : l.length = r.length
  · have HR1 : Hid (∀ (k : Nat) x y, l[k]? = some x → r[k]? = some y → x ≠ y → false = decide (l = r)) := fun k x y hx hy h => Yq.lother hx hy h
    have HR2 : Hid ((∀ (j : Nat) x y, l[j]? = some x → r[j]? = some y → x = y) → true = decide (l = r)) := fun h => (decide_eq_true (Yq.lsame hn h)).symm
    have HG : Hid (∀ i, i < l.length → ∃ x y, l[i]? = some x ∧ r[i]? = some y) := fun i hi => ⟨_, _, List.getElem?_eq_getElem hi, List.getElem?_eq_getElem (by omega)⟩
    have HG2 : Hid (∀ (i : Nat) x, l[i]? = some x → i < l.length) := fun i x hi => (List.getElem?_eq_some_iff.1 hi).1
    have HEx : Hid (∀ i x, l[i]? = some x → ∃ g o, s = some ⟨g, o, none⟩ ∧ ∀ w', Below w.heap.size w w' → w'.cell? ⟨g, o + i * 6, none⟩ = some (.int .i64 x.kind) ∧ w'.cell? ⟨g, o + i * 6 + 1, none⟩ = some (.int .i64 x.at_) ∧ w'.cell? ⟨g, o + i * 6 + 2, none⟩ = some (.int .i64 x.cycle) ∧ w'.cell? ⟨g, o + i * 6 + 3, none⟩ = some (.int .i64 x.rep) ∧ w'.cell? ⟨g, o + i * 6 + 4, none⟩ = some (.int .i64 x.msg) ∧ w'.cell? ⟨g, o + i * 6 + 5, none⟩ = some (.int .i64 x.til)) := fun i x hx => h.trig hx
    have HEy : Hid (∀ i x, r[i]? = some x → ∃ g o, t = some ⟨g, o, none⟩ ∧ ∀ w', Below w.heap.size w w' → w'.cell? ⟨g, o + i * 6, none⟩ = some (.int .i64 x.kind) ∧ w'.cell? ⟨g, o + i * 6 + 1, none⟩ = some (.int .i64 x.at_) ∧ w'.cell? ⟨g, o + i * 6 + 2, none⟩ = some (.int .i64 x.cycle) ∧ w'.cell? ⟨g, o + i * 6 + 3, none⟩ = some (.int .i64 x.rep) ∧ w'.cell? ⟨g, o + i * 6 + 4, none⟩ = some (.int .i64 x.msg) ∧ w'.cell? ⟨g, o + i * 6 + 5, none⟩ = some (.int .i64 x.til)) := fun i x hx => h2.trig hx
    clear h h2 hr
    rw [← hn]
    generalize decide (l = r) = R at HR1 HR2 ⊢
    clear hn
    generalize l.length = n at HG HG2 hl ⊢
    go_enter Tryd.func11, Tryd.ntmps11
    go_wp2_with fail
    go_loopw [5] (fun i wr => ∃ k : Nat, k ≤ n ∧ i = .int .i64 k ∧ Hid (Below w.heap.size w wr) ∧ Hid (∀ (j : Nat) x y, j < k → l[j]? = some x → r[j]? = some y → x = y)) (fun i _ => n - (intOf i).toNat)
    case atStart => exact ⟨0, Nat.zero_le _, rfl, Below.refl _ _, fun j x y h => absurd h (Nat.not_lt_zero _)⟩
    case round =>
      obtain ⟨k, hk, rfl, HB, HF⟩ := hrel
      by_cases hlt : k < n
      · obtain ⟨x, y, hx, hy⟩ := HG.out k hlt
        obtain ⟨g, o, rfl, hcx⟩ := HEx.out k x hx
        obtain ⟨g', o', rfl, hcy⟩ := HEy.out k y hy
        have HC : Hid (∀ w', Below wr.heap.size wr w' → (w'.cell? ⟨g, o + k * 6, none⟩ = some (.int .i64 x.kind) ∧ w'.cell? ⟨g, o + k * 6 + 1, none⟩ = some (.int .i64 x.at_) ∧ w'.cell? ⟨g, o + k * 6 + 2, none⟩ = some (.int .i64 x.cycle) ∧ w'.cell? ⟨g, o + k * 6 + 3, none⟩ = some (.int .i64 x.rep) ∧ w'.cell? ⟨g, o + k * 6 + 4, none⟩ = some (.int .i64 x.msg) ∧ w'.cell? ⟨g, o + k * 6 + 5, none⟩ = some (.int .i64 x.til)) ∧ (w'.cell? ⟨g', o' + k * 6, none⟩ = some (.int .i64 y.kind) ∧ w'.cell? ⟨g', o' + k * 6 + 1, none⟩ = some (.int .i64 y.at_) ∧ w'.cell? ⟨g', o' + k * 6 + 2, none⟩ = some (.int .i64 y.cycle) ∧ w'.cell? ⟨g', o' + k * 6 + 3, none⟩ = some (.int .i64 y.rep) ∧ w'.cell? ⟨g', o' + k * 6 + 4, none⟩ = some (.int .i64 y.msg) ∧ w'.cell? ⟨g', o' + k * 6 + 5, none⟩ = some (.int .i64 y.til))) := fun w' hb => ⟨hcx w' (HB.out.trans (hb.mono HB.out.size)), hcy w' (HB.out.trans (hb.mono HB.out.size))⟩
        have HX : Hid (l[k]? = some x) := hx
        have HY : Hid (r[k]? = some y) := hy
        clear hx hy hcx hcy HG HEx HEy
        obtain ⟨p0, p1, p2, p3, p4, p5⟩ := x
        obtain ⟨r0, r1, r2, r3, r4, r5⟩ := y
        dsimp only at HC
        by_cases e0 : p0 = r0
        · subst e0
          by_cases e1 : p1 = r1
          · subst e1
            by_cases e2 : p2 = r2
            · subst e2
              by_cases e3 : p3 = r3
              · subst e3
                by_cases e4 : p4 = r4
                · subst e4
                  by_cases e5 : p5 = r5
                  · subst e5
                    have HF2 : Hid (∀ (j : Nat) x y, j < k + 1 → l[j]? = some x → r[j]? = some y → x = y) := Yq.lsucc HX.out HY.out HF.out rfl
                    clear HX HY HF HR1 HR2
                    go_wp2_with fail
                    refine Lw.wp_region_quiet_below (by kernel_rfl) (by kernel_rfl) ?_
                    repeat (first
                      | go_big_quiet_skip
                      | (go_big_quiet_want; go_big_quiet_op; go_big_quiet_on)
                      | (go_big_quiet_want; go_big_quiet_op; apply Exists.intro; refine ⟨fun _ hb' => ?_, ?_⟩; (first
                        | exact Lw.val_rfl _
                        | (simp [go_sem, (HC.out _ hb').1.1, (HC.out _ hb').1.2.1, (HC.out _ hb').1.2.2.1, (HC.out _ hb').1.2.2.2.1, (HC.out _ hb').1.2.2.2.2.1, (HC.out _ hb').1.2.2.2.2.2]; rfl)
                        | (simp [go_sem, (HC.out _ hb').2.1, (HC.out _ hb').2.2.1, (HC.out _ hb').2.2.2.1, (HC.out _ hb').2.2.2.2.1, (HC.out _ hb').2.2.2.2.2.1, (HC.out _ hb').2.2.2.2.2.2]; rfl)); go_big_quiet_on))
                    refine wpQuiet_nil ?_
                    intro w5 hb5
                    have HB5 : Hid (Below w.heap.size w w5) := HB.out.trans (hb5.mono HB.out.size)
                    clear hb5 HC HB
                    go_wp2
                    first
                      | exact ⟨⟨k + 1, by omega, by simp, HB5, HF2⟩, by simp [intOf]; omega⟩
                      | (go_roundw; (case rel => exact ⟨k + 1, by omega, rfl, HB5, HF2⟩); (case measure => simp only [intOf]; omega))
                  · have hR := HR1.out k _ _ HX.out HY.out (fun z => e5 (congrArg (·.til) z))
                    subst hR
                    have hb0 : (p5 == r5) = false := beq_eq_false_iff_ne.2 e5
                    clear HX HY HF HR1 HR2
                    go_wp2_with fail
                    refine Lw.wp_region_quiet_below (by kernel_rfl) (by kernel_rfl) ?_
                    repeat (first
                      | go_big_quiet_skip
                      | (go_big_quiet_want; go_big_quiet_op; go_big_quiet_on)
                      | (go_big_quiet_want; go_big_quiet_op; apply Exists.intro; refine ⟨fun _ hb' => ?_, ?_⟩; (first
                        | exact Lw.val_rfl _
                        | (simp [go_sem, (HC.out _ hb').1.1, (HC.out _ hb').1.2.1, (HC.out _ hb').1.2.2.1, (HC.out _ hb').1.2.2.2.1, (HC.out _ hb').1.2.2.2.2.1, (HC.out _ hb').1.2.2.2.2.2]; rfl)
                        | (simp [go_sem, (HC.out _ hb').2.1, (HC.out _ hb').2.2.1, (HC.out _ hb').2.2.2.1, (HC.out _ hb').2.2.2.2.1, (HC.out _ hb').2.2.2.2.2.1, (HC.out _ hb').2.2.2.2.2.2]; rfl)); go_big_quiet_on))
                    refine wpQuiet_nil ?_
                    intro w5 hb5
                    have HB5 : Hid (Below w.heap.size w w5) := HB.out.trans (hb5.mono HB.out.size)
                    clear hb5 HC HB
                    go_wp2
                    go_ret
                    exact ⟨rfl, HB5.out⟩
                · have hR := HR1.out k _ _ HX.out HY.out (fun z => e4 (congrArg (·.msg) z))
                  subst hR
                  have hb0 : (p4 == r4) = false := beq_eq_false_iff_ne.2 e4
                  clear HX HY HF HR1 HR2
                  go_wp2_with fail
                  refine Lw.wp_region_quiet_below (by kernel_rfl) (by kernel_rfl) ?_
                  repeat (first
                    | go_big_quiet_skip
                    | (go_big_quiet_want; go_big_quiet_op; go_big_quiet_on)
                    | (go_big_quiet_want; go_big_quiet_op; apply Exists.intro; refine ⟨fun _ hb' => ?_, ?_⟩; (first
                      | exact Lw.val_rfl _
                      | (simp [go_sem, (HC.out _ hb').1.1, (HC.out _ hb').1.2.1, (HC.out _ hb').1.2.2.1, (HC.out _ hb').1.2.2.2.1, (HC.out _ hb').1.2.2.2.2.1, (HC.out _ hb').1.2.2.2.2.2]; rfl)
                      | (simp [go_sem, (HC.out _ hb').2.1, (HC.out _ hb').2.2.1, (HC.out _ hb').2.2.2.1, (HC.out _ hb').2.2.2.2.1, (HC.out _ hb').2.2.2.2.2.1, (HC.out _ hb').2.2.2.2.2.2]; rfl)); go_big_quiet_on))
                  refine wpQuiet_nil ?_
                  intro w5 hb5
                  have HB5 : Hid (Below w.heap.size w w5) := HB.out.trans (hb5.mono HB.out.size)
                  clear hb5 HC HB
                  go_wp2
                  go_ret
                  exact ⟨rfl, HB5.out⟩
              · have hR := HR1.out k _ _ HX.out HY.out (fun z => e3 (congrArg (·.rep) z))
                subst hR
                have hb0 : (p3 == r3) = false := beq_eq_false_iff_ne.2 e3
                clear HX HY HF HR1 HR2
                go_wp2_with fail
                refine Lw.wp_region_quiet_below (by kernel_rfl) (by kernel_rfl) ?_
                repeat (first
                  | go_big_quiet_skip
                  | (go_big_quiet_want; go_big_quiet_op; go_big_quiet_on)
                  | (go_big_quiet_want; go_big_quiet_op; apply Exists.intro; refine ⟨fun _ hb' => ?_, ?_⟩; (first
                    | exact Lw.val_rfl _
                    | (simp [go_sem, (HC.out _ hb').1.1, (HC.out _ hb').1.2.1, (HC.out _ hb').1.2.2.1, (HC.out _ hb').1.2.2.2.1, (HC.out _ hb').1.2.2.2.2.1, (HC.out _ hb').1.2.2.2.2.2]; rfl)
                    | (simp [go_sem, (HC.out _ hb').2.1, (HC.out _ hb').2.2.1, (HC.out _ hb').2.2.2.1, (HC.out _ hb').2.2.2.2.1, (HC.out _ hb').2.2.2.2.2.1, (HC.out _ hb').2.2.2.2.2.2]; rfl)); go_big_quiet_on))
                refine wpQuiet_nil ?_
                intro w5 hb5
                have HB5 : Hid (Below w.heap.size w w5) := HB.out.trans (hb5.mono HB.out.size)
                clear hb5 HC HB
                go_wp2
                go_ret
                exact ⟨rfl, HB5.out⟩
            · have hR := HR1.out k _ _ HX.out HY.out (fun z => e2 (congrArg (·.cycle) z))
              subst hR
              have hb0 : (p2 == r2) = false := beq_eq_false_iff_ne.2 e2
              clear HX HY HF HR1 HR2
              go_wp2_with fail
              refine Lw.wp_region_quiet_below (by kernel_rfl) (by kernel_rfl) ?_
              repeat (first
                | go_big_quiet_skip
                | (go_big_quiet_want; go_big_quiet_op; go_big_quiet_on)
                | (go_big_quiet_want; go_big_quiet_op; apply Exists.intro; refine ⟨fun _ hb' => ?_, ?_⟩; (first
                  | exact Lw.val_rfl _
                  | (simp [go_sem, (HC.out _ hb').1.1, (HC.out _ hb').1.2.1, (HC.out _ hb').1.2.2.1, (HC.out _ hb').1.2.2.2.1, (HC.out _ hb').1.2.2.2.2.1, (HC.out _ hb').1.2.2.2.2.2]; rfl)
                  | (simp [go_sem, (HC.out _ hb').2.1, (HC.out _ hb').2.2.1, (HC.out _ hb').2.2.2.1, (HC.out _ hb').2.2.2.2.1, (HC.out _ hb').2.2.2.2.2.1, (HC.out _ hb').2.2.2.2.2.2]; rfl)); go_big_quiet_on))
              refine wpQuiet_nil ?_
              intro w5 hb5
              have HB5 : Hid (Below w.heap.size w w5) := HB.out.trans (hb5.mono HB.out.size)
              clear hb5 HC HB
              go_wp2
              go_ret
              exact ⟨rfl, HB5.out⟩
          · have hR := HR1.out k _ _ HX.out HY.out (fun z => e1 (congrArg (·.at_) z))
            subst hR
            have hb0 : (p1 == r1) = false := beq_eq_false_iff_ne.2 e1
            clear HX HY HF HR1 HR2
            go_wp2_with fail
            refine Lw.wp_region_quiet_below (by kernel_rfl) (by kernel_rfl) ?_
            repeat (first
              | go_big_quiet_skip
              | (go_big_quiet_want; go_big_quiet_op; go_big_quiet_on)
              | (go_big_quiet_want; go_big_quiet_op; apply Exists.intro; refine ⟨fun _ hb' => ?_, ?_⟩; (first
                | exact Lw.val_rfl _
                | (simp [go_sem, (HC.out _ hb').1.1, (HC.out _ hb').1.2.1, (HC.out _ hb').1.2.2.1, (HC.out _ hb').1.2.2.2.1, (HC.out _ hb').1.2.2.2.2.1, (HC.out _ hb').1.2.2.2.2.2]; rfl)
                | (simp [go_sem, (HC.out _ hb').2.1, (HC.out _ hb').2.2.1, (HC.out _ hb').2.2.2.1, (HC.out _ hb').2.2.2.2.1, (HC.out _ hb').2.2.2.2.2.1, (HC.out _ hb').2.2.2.2.2.2]; rfl)); go_big_quiet_on))
            refine wpQuiet_nil ?_
            intro w5 hb5
            have HB5 : Hid (Below w.heap.size w w5) := HB.out.trans (hb5.mono HB.out.size)
            clear hb5 HC HB
            go_wp2
            go_ret
            exact ⟨rfl, HB5.out⟩
        · have hR := HR1.out k _ _ HX.out HY.out (fun z => e0 (congrArg (·.kind) z))
          subst hR
          have hb0 : (p0 == r0) = false := beq_eq_false_iff_ne.2 e0
          clear HX HY HF HR1 HR2
          go_wp2_with fail
          refine Lw.wp_region_quiet_below (by kernel_rfl) (by kernel_rfl) ?_
          repeat (first
            | go_big_quiet_skip
            | (go_big_quiet_want; go_big_quiet_op; go_big_quiet_on)
            | (go_big_quiet_want; go_big_quiet_op; apply Exists.intro; refine ⟨fun _ hb' => ?_, ?_⟩; (first
              | exact Lw.val_rfl _
              | (simp [go_sem, (HC.out _ hb').1.1, (HC.out _ hb').1.2.1, (HC.out _ hb').1.2.2.1, (HC.out _ hb').1.2.2.2.1, (HC.out _ hb').1.2.2.2.2.1, (HC.out _ hb').1.2.2.2.2.2]; rfl)
              | (simp [go_sem, (HC.out _ hb').2.1, (HC.out _ hb').2.2.1, (HC.out _ hb').2.2.2.1, (HC.out _ hb').2.2.2.2.1, (HC.out _ hb').2.2.2.2.2.1, (HC.out _ hb').2.2.2.2.2.2]; rfl)); go_big_quiet_on))
          refine wpQuiet_nil ?_
          intro w5 hb5
          have HB5 : Hid (Below w.heap.size w w5) := HB.out.trans (hb5.mono HB.out.size)
          clear hb5 HC HB
          go_wp2
          go_ret
          exact ⟨rfl, HB5.out⟩
      · have hR := HR2.out (fun j x y hx hy => HF.out j x y (by have := HG2.out j x hx; omega) hx hy)
        subst hR
        clear HR1 HR2 HF HG HG2 HEx HEy
        go_wp2
        go_ret
        exact ⟨rfl, HB.out⟩
  · have e : false = decide (l = r) := (decide_eq_false (fun e => hn (by rw [e]))).symm
    rw [← e]
    have b0 : ((l.length : Int) == (r.length : Int)) = false := beq_eq_false_iff_ne.2 (by omega)
    clear h h2 e
    generalize l.length = n at *
    generalize r.length = n2 at *
    go_enter Tryd.func11, Tryd.ntmps11
    go_wp2
    go_ret
    exact ⟨rfl, Below.refl _ _⟩
end Go.Proofs.YtlfhneiddfgoaaaDoor
