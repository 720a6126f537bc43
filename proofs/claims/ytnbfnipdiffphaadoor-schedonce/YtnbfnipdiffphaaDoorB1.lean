/- The document's matrices, over their text: within, power, Comes, Rank, Find, Frame. -/
import Derived.Test.YtnbfnipdiffphaaDoorMv
import Derived.Test.YtnbfnipdiffphaaDoorU2
namespace Go.Proofs.YtnbfnipdiffphaaDoor
open Go.RowKit Go.WideShapes
set_option linter.unusedVariables false
set_option maxRecDepth 100000 in
set_option maxHeartbeats 1000000 in
theorem rwithin_any (w : World) (n lo hi : Int) : Calls Tryd.prog 37 #[.int .i64 n, .int .i64 lo, .int .i64 hi] w fun e w' => e = .returned (.bool (Mx.within n lo hi)) ∧ w' = w := by
  unfold Mx.within
  by_cases h : lo ≤ n
  · rw [decide_eq_true h, Bool.true_and]
    go_enter Tryd.func37, Tryd.ntmps37
    go_wp2
    go_ret
    exact ⟨by simp, rfl⟩
  · rw [decide_eq_false h, Bool.false_and]
    go_enter Tryd.func37, Tryd.ntmps37
    go_wp2
    go_ret
    exact ⟨rfl, rfl⟩
set_option maxRecDepth 100000 in
set_option maxHeartbeats 1000000 in
theorem rpower_any (w : World) (n most : Int) : Calls Tryd.prog 38 #[.int .i64 n, .int .i64 most] w fun e w' => e = .returned (.bool (Mx.power n most)) ∧ w' = w := by
  unfold Mx.power
  cases h1 : (n == 1) <;> cases h2 : (n == 2) <;> cases h4 : (n == 4) <;> cases h8 : (n == 8)
  all_goals
    go_enter Tryd.func38, Tryd.ntmps38
    go_wp2
    go_ret
    exact ⟨by simp, rfl⟩
set_option maxRecDepth 100000 in
set_option maxHeartbeats 1000000 in
theorem rcomes_any (w : World) (cy rp now : Int) (h1 : (Lit.int .i64 cy).wf = true) (h2 : (Lit.int .i64 now).wf = true) : Calls Tryd.prog 26 #[.int .i64 cy, .int .i64 rp, .int .i64 now] w fun e w' => e = .returned (.bool (Mx.comes cy rp now)) ∧ w' = w := by
  obtain ⟨b1, b2⟩ := bounds_i64 h1
  obtain ⟨b3, b4⟩ := bounds_i64 h2
  clear h1 h2
  unfold Mx.comes
  by_cases c1 : 0 < rp
  · rw [decide_eq_true c1, Bool.true_and]
    by_cases c2 : 0 ≤ cy
    · rw [decide_eq_true c2, Bool.true_and]
      by_cases c3 : cy ≤ now
      · rw [decide_eq_true c3, Bool.true_and]
        have n0 : rp ≠ 0 := by omega
        go_enter Tryd.func26, Tryd.ntmps26
        go_wp2
        go_ret
        exact ⟨by simp, rfl⟩
      · rw [decide_eq_false c3, Bool.false_and]
        go_enter Tryd.func26, Tryd.ntmps26
        go_wp2
        go_ret
        exact ⟨rfl, rfl⟩
    · rw [decide_eq_false c2, Bool.false_and, Bool.false_and]
      go_enter Tryd.func26, Tryd.ntmps26
      go_wp2
      go_ret
      exact ⟨rfl, rfl⟩
  · rw [decide_eq_false c1, Bool.false_and, Bool.false_and, Bool.false_and]
    go_enter Tryd.func26, Tryd.ntmps26
    go_wp2
    go_ret
    exact ⟨rfl, rfl⟩
/-- A matrix that came in and was copied into a block. -/
structure Bx (w wB : World) (p : Nat) (m : Mx.M) (a : Ma) : Prop where
  row : RowT 27 wB p (mCs m a)
  mem : MIn wB m a
  below : Below w.heap.size w wB
theorem Bx.mk' {w : World} {m : Mx.M} {a : Ma} (hm : MIn w m a) : Bx w (w.alloc (.cells (mCs m a) 27)) w.heap.size m a := by
  have hb : Below w.heap.size w (w.alloc (.cells (mCs m a) 27)) := (Below.refl _ _).alloc (Nat.le_refl _) _
  exact ⟨RowT.new _ _ _, hm.on hb, hb⟩
theorem Bx.on {w wB w' : World} {p : Nat} {m : Mx.M} {a : Ma} (h : Bx w wB p m a) (hb : Below wB.heap.size wB w') : Bx w w' p m a := ⟨h.row.on hb, h.mem.on hb, h.below.trans (hb.mono h.below.size)⟩
set_option maxRecDepth 100000 in
set_option maxHeartbeats 1000000 in
theorem rrank_any (w : World) (m : Mx.M) (a : Ma) (who : Int) (hm : MIn w m a) (hS : Mx.Small m) : Calls Tryd.prog 24 #[mV m a, .int .i64 who] w fun e w' => e = .returned (.int .i64 (Mx.rank m who)) ∧ Below w.heap.size w w' := by
  have HX : Hid (Bx w (w.alloc (.cells (mCs m a) 27)) w.heap.size m a) := Bx.mk' hm
  have hl := hS.a
  obtain ⟨_, _, _, _, _, _, _, _, x8, _, _⟩ := HX.out.row.mat
  show Calls _ _ #[.agg (mCs m a), _] _ _
  generalize mCs m a = cs at HX x8 ⊢
  clear hm hS
  have HE1 : Hid (∀ (k : Nat) x, m.masters[k]? = some x → (∀ (j : Nat) y, j < k → m.masters[j]? = some y → (y == who) = false) → (x == who) = true → Mx.rank m who = (k : Int)) := fun k x hx hb hw => Mx.firstAt_some hx hb hw
  have HE2 : Hid ((∀ (j : Nat) y, m.masters[j]? = some y → (y == who) = false) → Mx.rank m who = -1) := fun hb => Mx.firstAt_none hb
  generalize Mx.rank m who = R at HE1 HE2 ⊢
  go_enter Tryd.func24, Tryd.ntmps24
  go_wp2_with fail
  generalize w.alloc (.cells cs 27) = wB at HX x8 ⊢
  have HL : Hid (∀ k, k < m.masters.length → ∃ x, m.masters[k]? = some x) := fun k hk => ⟨_, List.getElem?_eq_getElem hk⟩
  have HL2 : Hid (∀ (j : Nat) y, m.masters[j]? = some y → j < m.masters.length) := fun j y h => (List.getElem?_eq_some_iff.1 h).1
  generalize m.masters.length = n at hl x8 HL HL2
  go_loopw [5] (fun i wr => ∃ k : Nat, k ≤ n ∧ i = .int .i64 k ∧ wr = wB ∧ Hid (∀ (j : Nat) y, j < k → m.masters[j]? = some y → (y == who) = false)) (fun i _ => n - (intOf i).toNat)
  case atStart => exact ⟨0, Nat.zero_le _, rfl, rfl, fun j y h => absurd h (Nat.not_lt_zero _)⟩
  case round =>
    obtain ⟨k, hk, rfl, rfl, HF⟩ := hrel
    by_cases hlt : k < n
    · obtain ⟨x, hx⟩ := HL.out k hlt
      obtain ⟨g, o, hs, hg, hc⟩ := HX.out.mem.master hx
      rw [hs] at x8
      cases hw : (x == who)
      · have HF2 := Mx.upto_succ (p := fun y => y == who) hx HF.out hw
        clear hx hs hg
        go_wp2
        exact ⟨⟨k + 1, by omega, by simp, (by first | rfl | trivial), HF2⟩, by simp [intOf]; omega⟩
      · have hR := HE1.out k x hx HF.out hw
        clear hx hs hg HE1 HE2
        go_wp2
        go_ret
        exact ⟨by rw [hR]; rfl, HX.out.below⟩
    · have hR := HE2.out (fun j y hy => HF.out j y (by have := HL2.out j y hy; omega) hy)
      clear HE1 HE2
      go_wp2
      go_ret
      exact ⟨by rw [hR]; rfl, HX.out.below⟩
set_option maxRecDepth 100000 in
set_option maxHeartbeats 4000000 in
theorem rfind_any (w : World) (m : Mx.M) (a : Ma) (ext rtr : Bool) (id : Nat) (d : ByteArray) (hm : MIn w m a) (hS : Mx.Small m) : Calls Tryd.prog 39 #[mV m a, .agg #[.bool ext, .int .u32 (id : Int), .bool rtr, .string d]] w fun e w' => e = .returned (.int .i64 (Mx.find m ext rtr id)) ∧ Below w.heap.size w w' := by
  have HX0 : Hid (Bx w (w.alloc (.cells (mCs m a) 27)) w.heap.size m a) := Bx.mk' hm
  have HF0 : Hid (RowT 72 ((w.alloc (.cells (mCs m a) 27)).alloc (.cells #[.bool ext, .int .u32 (id : Int), .bool rtr, .string d] 72)) (w.alloc (.cells (mCs m a) 27)).heap.size #[.bool ext, .int .u32 (id : Int), .bool rtr, .string d]) := RowT.new _ _ _
  have HX : Hid (Bx w ((w.alloc (.cells (mCs m a) 27)).alloc (.cells #[.bool ext, .int .u32 (id : Int), .bool rtr, .string d] 72)) w.heap.size m a) := HX0.out.on ((Below.refl _ _).alloc (Nat.le_refl _) _)
  have hl := hS.b
  have hsz : (w.alloc (.cells (mCs m a) 27)).heap.size = w.heap.size + 1 := by simp
  rw [hsz] at HF0
  show Calls _ _ #[.agg (mCs m a), _] _ _
  generalize mCs m a = cs at HX HF0 ⊢
  clear hm hS HX0 hsz
  have HE1 : Hid (∀ (k : Nat) x, m.messages[k]? = some x → (∀ (j : Nat) y, j < k → m.messages[j]? = some y → (!ext && !rtr && y.id == id) = false) → (!ext && !rtr && x.id == id) = true → Mx.find m ext rtr id = (k : Int)) := fun k x hx hb hw => Mx.firstAt_some hx hb hw
  have HE2 : Hid ((∀ (j : Nat) y, m.messages[j]? = some y → (!ext && !rtr && y.id == id) = false) → Mx.find m ext rtr id = -1) := fun hb => Mx.firstAt_none hb
  generalize Mx.find m ext rtr id = R at HE1 HE2 ⊢
  go_enter Tryd.func39, Tryd.ntmps39
  go_wp2_with fail
  generalize (w.alloc (.cells cs 27)).alloc (.cells #[.bool ext, .int .u32 (id : Int), .bool rtr, .string d] 72) = wB at HX HF0 ⊢
  have HL : Hid (∀ k, k < m.messages.length → ∃ x, m.messages[k]? = some x) := fun k hk => ⟨_, List.getElem?_eq_getElem hk⟩
  have HL2 : Hid (∀ (j : Nat) y, m.messages[j]? = some y → j < m.messages.length) := fun j y h => (List.getElem?_eq_some_iff.1 h).1
  obtain ⟨n, hn⟩ : ∃ n, m.messages.length = n := ⟨_, rfl⟩
  have HN : Hid (m.messages.length = n) := hn
  rw [hn] at hl HL HL2
  clear hn
  go_loopw [5] (fun i wr => ∃ k : Nat, k ≤ n ∧ i = .int .i64 k ∧ Hid (Bx w wr w.heap.size m a) ∧ Hid (RowT 72 wr (w.heap.size + 1) #[.bool ext, .int .u32 (id : Int), .bool rtr, .string d]) ∧ Hid (∀ (j : Nat) y, j < k → m.messages[j]? = some y → (!ext && !rtr && y.id == id) = false)) (fun i _ => n - (intOf i).toNat)
  case atStart => exact ⟨0, Nat.zero_le _, rfl, HX, HF0, fun j y h => absurd h (Nat.not_lt_zero _)⟩
  case round =>
    clear HX HF0
    obtain ⟨k, hk, rfl, HX, HR, HF⟩ := hrel
    have x9 : wr.cell? ⟨w.heap.size, 9, none⟩ = some (.slice a.s2 n a.c2) := by have := HX.out.row.mat.2.2.2.2.2.2.2.2.2.1; rw [HN.out] at this; exact this
    by_cases hlt : k < n
    · obtain ⟨x, hx⟩ := HL.out k hlt
      obtain ⟨g, o, hs, _⟩ := HX.out.mem.message hx
      have HC : Hid (∀ w', Below wr.heap.size wr w' → w'.cell? ⟨w.heap.size, 9, none⟩ = some (.slice (some ⟨g, o, none⟩) n a.c2) ∧ w'.cell? ⟨g, o + k * 3, none⟩ = some (.int .u32 (x.id : Int)) ∧ w'.cell? ⟨w.heap.size + 1, 0, none⟩ = some (.bool ext) ∧ w'.cell? ⟨w.heap.size + 1, 1, none⟩ = some (.int .u32 (id : Int)) ∧ w'.cell? ⟨w.heap.size + 1, 2, none⟩ = some (.bool rtr)) := fun w' hb => by
        have hX := HX.out.on hb
        obtain ⟨g', o', hs', _, hc, _⟩ := hX.mem.message hx
        rw [hs] at hs'
        injection hs' with hs'
        injection hs' with e1 e2
        subst e1 e2
        have h9 := hX.row.mat.2.2.2.2.2.2.2.2.2.1
        rw [HN.out, hs] at h9
        exact ⟨h9, hc, (HR.out.on hb).c 0 _ rfl, (HR.out.on hb).c 1 _ rfl, (HR.out.on hb).c 2 _ rfl⟩
      have HX1 : Hid (m.messages[k]? = some x) := hx
      rw [hs] at x9
      clear hs hx
      cases hw : (!ext && !rtr && x.id == id)
      · have HF2 : Hid (∀ (j : Nat) y, j < k + 1 → m.messages[j]? = some y → (!ext && !rtr && y.id == id) = false) := Mx.upto_succ (p := fun y : Mx.Msg => !ext && !rtr && y.id == id) HX1.out HF.out hw
        have hways : ext = true ∨ (ext = false ∧ rtr = true) ∨ (ext = false ∧ rtr = false ∧ ((x.id : Int) == (id : Int)) = false) := by
          cases ext <;> cases rtr <;> simp_all
          exact fun h => hw (by exact_mod_cast h)
        clear hw HE1 HE2 HF
        rcases hways with rfl | ⟨rfl, rfl⟩ | ⟨rfl, rfl, hne⟩
        all_goals
          go_wp2_with fail
          refine Lw.wp_region_quiet_below (by kernel_rfl) (by kernel_rfl) ?_
          repeat (first
            | go_big_quiet_skip
            | (go_big_quiet_want; go_big_quiet_op; go_big_quiet_on)
            | (go_big_quiet_want; go_big_quiet_op; apply Exists.intro; refine ⟨fun _ hb' => ?_, ?_⟩; (first
              | exact Lw.val_rfl _
              | (simp [go_sem, (HC.out _ hb').1]; rfl)
              | (simp [go_sem, (HC.out _ hb').2.1]; rfl)
              | (simp [go_sem, (HC.out _ hb').2.2.1]; rfl)
              | (simp [go_sem, (HC.out _ hb').2.2.2.1]; rfl)
              | (simp [go_sem, (HC.out _ hb').2.2.2.2]; rfl)); go_big_quiet_on))
          refine wpQuiet_nil ?_
          intro w5 hb5
          have HX5 : Hid (Bx w w5 w.heap.size m a) := HX.out.on hb5
          have HR5 : Hid (RowT 72 w5 (w.heap.size + 1) _) := HR.out.on hb5
          clear hb5 HC
          go_wp2
          exact ⟨⟨k + 1, by omega, by simp, HX5, HR5, HF2⟩, by simp [intOf]; omega⟩
      · have hR := HE1.out k x HX1.out HF.out hw
        obtain ⟨rfl, rfl, he⟩ : ext = false ∧ rtr = false ∧ x.id = id := by cases ext <;> cases rtr <;> simp_all
        subst he
        subst hR
        clear HE1 HE2 HF hw
        go_wp2_with fail
        refine Lw.wp_region_quiet_below (by kernel_rfl) (by kernel_rfl) ?_
        repeat (first
          | go_big_quiet_skip
          | (go_big_quiet_want; go_big_quiet_op; go_big_quiet_on)
          | (go_big_quiet_want; go_big_quiet_op; apply Exists.intro; refine ⟨fun _ hb' => ?_, ?_⟩; (first
            | exact Lw.val_rfl _
            | (simp [go_sem, (HC.out _ hb').1]; rfl)
            | (simp [go_sem, (HC.out _ hb').2.1]; rfl)
            | (simp [go_sem, (HC.out _ hb').2.2.1]; rfl)
            | (simp [go_sem, (HC.out _ hb').2.2.2.1]; rfl)
            | (simp [go_sem, (HC.out _ hb').2.2.2.2]; rfl)); go_big_quiet_on))
        refine wpQuiet_nil ?_
        intro w5 hb5
        have HX5 : Hid (Bx w w5 w.heap.size m a) := HX.out.on hb5
        clear hb5 HC
        go_wp2
        go_ret
        exact ⟨rfl, HX5.out.below⟩
    · have hR := HE2.out (fun j y hy => HF.out j y (by have := HL2.out j y hy; omega) hy)
      subst hR
      clear HE1 HE2
      go_wp2
      go_ret
      exact ⟨rfl, HX.out.below⟩
end Go.Proofs.YtnbfnipdiffphaaDoor
