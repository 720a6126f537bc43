/- Package matrix, over the landed code: slices.Clone at its three element types; Copy. -/
import Derived.Test.YtkgeknkppnadfaaMo
import Derived.Test.YtkgeknkppnadfaaSg
import Derived.Test.YtkgeknkppnadfaaB1
import Derived.Deep.CutBlock
import Derived.WalkSpells
import Derived.Lib.SliceRun
namespace Go.Proofs.Ytkgeknkppnadfaa
open Go.RowKit Go.WideShapes
set_option linter.unusedVariables false
namespace Bk
theorem elI : Sg.El Try.prog 26 3 1 (.int .i64 0) 8 := ⟨Try.underlying26, by kernel_rfl, rfl, by decide⟩
theorem elG : Sg.El Try.prog 22 62 3 (.agg #[.int .u32 0, .int .i64 0, .bool false]) 24 := ⟨Try.underlying22, by kernel_rfl, rfl, by decide⟩
theorem elW : Sg.El Try.prog 27 88 6 (.agg #[.int .i64 0, .int .i64 0, .int .i64 0, .int .i64 0, .int .i64 0, .int .i64 0]) 48 := ⟨Try.underlying27, by kernel_rfl, rfl, by decide⟩
theorem one1 (l : List Int) : ∀ u ∈ l.flatMap mC1, u.oneCell' = true := fun u hu => by
  obtain ⟨x, _, h⟩ := List.mem_flatMap.1 hu
  simp only [mC1, List.mem_cons, List.not_mem_nil, or_false] at h
  subst h
  rfl
theorem one2 (l : List Mx.Msg) : ∀ u ∈ l.flatMap mC2, u.oneCell' = true := fun u hu => by
  obtain ⟨x, _, h⟩ := List.mem_flatMap.1 hu
  simp only [mC2, List.mem_cons, List.not_mem_nil, or_false] at h
  rcases h with rfl | rfl | rfl <;> rfl
theorem one3 (l : List Mx.Win) : ∀ u ∈ l.flatMap mC3, u.oneCell' = true := fun u hu => by
  obtain ⟨x, _, h⟩ := List.mem_flatMap.1 hu
  simp only [mC3, List.mem_cons, List.not_mem_nil, or_false] at h
  rcases h with rfl | rfl | rfl | rfl | rfl | rfl <;> rfl
theorem len_flat {α : Type} {f : α → List Value} {sz : Nat} (hf : ∀ x, (f x).length = sz) (l : List α) : (l.flatMap f).length = l.length * sz := by
  induction l with
  | nil => simp
  | cons x l ih => rw [List.flatMap_cons, List.length_append, hf, ih, List.length_cons, Nat.succ_mul, Nat.add_comm]
theorem ol_ne {e : TypeId} {sz B : Nat} {w : World} {s : Option Addr} {c n : Nat} {C : List Value} (h : Sg.OL e sz B w s c n C) {T : TypeId} {p : Nat} {cs : Array Value} (hr : RowT T w p cs) (hT : T ≠ e) : ¬ Sg.At_ s c p := fun ⟨h0, e1⟩ => by
  obtain ⟨g, o, cur, e2, _, hh⟩ := h.ty h0
  rw [e2] at e1
  injection e1 with e1
  dsimp only at e1
  subst e1
  have h1 : w.heap[g]? = some (.cells cs T (0, 0)) := hr
  rw [h1] at hh
  injection hh with hh
  injection hh with _ e
  exact hT e
theorem empty (e : TypeId) (sz B : Nat) (w : World) (s : Option Addr) : Sg.OL e sz B w s 0 0 [] := ⟨⟨Nat.le_refl _, Nat.zero_le _, by simp, Or.inl rfl⟩, fun h => absurd h (Nat.lt_irrefl 0)⟩
theorem kept_below {s : Option Addr} {w0 w w' : World} (hb : Below w0.heap.size w0 w) (h : Kept (Sg.At_ s 0) w w') : Below w0.heap.size w0 w' := hb.trans ((h.below (B := w.heap.size) (fun g hg => absurd hg.1 (Nat.lt_irrefl 0)) (Nat.le_refl _)).mono hb.size)
end Bk
set_option maxRecDepth 100000 in
set_option maxHeartbeats 4000000 in
theorem mk_clone1 (w : World) (l : List Int) (s : Option Addr) (c : Nat) (h : LI w s c l.length (l.flatMap mC1)) (hl : l.length ≤ 1000) : Calls Try.prog 40 #[.slice s l.length c] w fun e w' => ∃ s' c' n', n' = l.length ∧ e = .returned (.slice s' n' c') ∧ Sg.OL 3 1 w.heap.size w' s' c' n' (l.flatMap mC1) ∧ Below w.heap.size w w' := by
  have qn : ∀ (w : World) (a : Option Addr) (n c n' c' : Nat), (binOp .eql 26 (.slice a n c) (.slice none n' c')).run Try.prog w = .ok (.bool a.isNone) w := fun w a n c n' c' => Lib.run_eql_slice_nil w _ _ a n c n' c' Try.underlying26
  cases s with
  | none =>
    have h0 : l = [] := by
      rcases h.2.2 with h | ⟨g, o, e, _⟩
      · exact List.eq_nil_of_length_eq_zero h
      · cases e
    subst h0
    clear h hl
    dsimp only [List.length_nil]
    go_enter Try.func40, Try.ntmps40
    go_wp2
    go_ret
    exact ⟨none, 0, 0, rfl, rfl, Bk.empty _ _ _ _ _, Below.refl _ _⟩
  | some ad =>
    have HS : Hid (∀ w', Below w.heap.size w w' → Src Try.prog 1 26 (.slice (some ad) l.length c) l.length (l.flatMap mC1) w') := fun w' hb => Sg.src_li Try.underlying26 (h.on hb) (Bk.len_flat (f := mC1) (sz := 1) (fun _ => rfl) l) (Bk.one1 l)
    generalize l.flatMap mC1 = C at HS ⊢
    clear h
    generalize l.length = n at *
    go_enter Try.func40, Try.ntmps40
    go_wp2_with (refine Sg.wpList_appendO Bk.elI rfl (.tmp 5) (.tmp 6) 26 rfl rfl rfl (Bk.empty 3 1 w.heap.size _ _) (by simp) (HS.out _ (by first | exact (Below.refl _ _).alloc (Nat.le_refl _) _ | exact Below.refl _ _)) (by omega) ?_; intro s' c' n' w' hn h1 hk; rw [Nat.zero_add] at hn; subst hn)
    go_ret
    rw [List.nil_append] at h1
    exact ⟨s', c', _, rfl, rfl, h1, Bk.kept_below ((Below.refl _ _).alloc (Nat.le_refl _) _) hk⟩
set_option maxRecDepth 100000 in
set_option maxHeartbeats 4000000 in
theorem mk_clone2 (w : World) (l : List Mx.Msg) (s : Option Addr) (c : Nat) (h : LI w s c l.length (l.flatMap mC2)) (hl : l.length ≤ 1000) : Calls Try.prog 41 #[.slice s l.length c] w fun e w' => ∃ s' c' n', n' = l.length ∧ e = .returned (.slice s' n' c') ∧ Sg.OL 62 3 w.heap.size w' s' c' n' (l.flatMap mC2) ∧ Below w.heap.size w w' := by
  have qn : ∀ (w : World) (a : Option Addr) (n c n' c' : Nat), (binOp .eql 22 (.slice a n c) (.slice none n' c')).run Try.prog w = .ok (.bool a.isNone) w := fun w a n c n' c' => Lib.run_eql_slice_nil w _ _ a n c n' c' Try.underlying22
  cases s with
  | none =>
    have h0 : l = [] := by
      rcases h.2.2 with h | ⟨g, o, e, _⟩
      · exact List.eq_nil_of_length_eq_zero h
      · cases e
    subst h0
    clear h hl
    dsimp only [List.length_nil]
    go_enter Try.func41, Try.ntmps41
    go_wp2
    go_ret
    exact ⟨none, 0, 0, rfl, rfl, Bk.empty _ _ _ _ _, Below.refl _ _⟩
  | some ad =>
    have HS : Hid (∀ w', Below w.heap.size w w' → Src Try.prog 3 22 (.slice (some ad) l.length c) l.length (l.flatMap mC2) w') := fun w' hb => Sg.src_li Try.underlying22 (h.on hb) (Bk.len_flat (f := mC2) (sz := 3) (fun _ => rfl) l) (Bk.one2 l)
    generalize l.flatMap mC2 = C at HS ⊢
    clear h
    generalize l.length = n at *
    go_enter Try.func41, Try.ntmps41
    go_wp2_with (refine Sg.wpList_appendO Bk.elG rfl (.tmp 5) (.tmp 6) 22 rfl rfl rfl (Bk.empty 62 3 w.heap.size _ _) (by simp) (HS.out _ (by first | exact (Below.refl _ _).alloc (Nat.le_refl _) _ | exact Below.refl _ _)) (by omega) ?_; intro s' c' n' w' hn h1 hk; rw [Nat.zero_add] at hn; subst hn)
    go_ret
    rw [List.nil_append] at h1
    exact ⟨s', c', _, rfl, rfl, h1, Bk.kept_below ((Below.refl _ _).alloc (Nat.le_refl _) _) hk⟩
set_option maxRecDepth 100000 in
set_option maxHeartbeats 4000000 in
theorem mk_clone3 (w : World) (l : List Mx.Win) (s : Option Addr) (c : Nat) (h : LI w s c l.length (l.flatMap mC3)) (hl : l.length ≤ 1000) : Calls Try.prog 42 #[.slice s l.length c] w fun e w' => ∃ s' c' n', n' = l.length ∧ e = .returned (.slice s' n' c') ∧ Sg.OL 88 6 w.heap.size w' s' c' n' (l.flatMap mC3) ∧ Below w.heap.size w w' := by
  have qn : ∀ (w : World) (a : Option Addr) (n c n' c' : Nat), (binOp .eql 27 (.slice a n c) (.slice none n' c')).run Try.prog w = .ok (.bool a.isNone) w := fun w a n c n' c' => Lib.run_eql_slice_nil w _ _ a n c n' c' Try.underlying27
  cases s with
  | none =>
    have h0 : l = [] := by
      rcases h.2.2 with h | ⟨g, o, e, _⟩
      · exact List.eq_nil_of_length_eq_zero h
      · cases e
    subst h0
    clear h hl
    dsimp only [List.length_nil]
    go_enter Try.func42, Try.ntmps42
    go_wp2
    go_ret
    exact ⟨none, 0, 0, rfl, rfl, Bk.empty _ _ _ _ _, Below.refl _ _⟩
  | some ad =>
    have HS : Hid (∀ w', Below w.heap.size w w' → Src Try.prog 6 27 (.slice (some ad) l.length c) l.length (l.flatMap mC3) w') := fun w' hb => Sg.src_li Try.underlying27 (h.on hb) (Bk.len_flat (f := mC3) (sz := 6) (fun _ => rfl) l) (Bk.one3 l)
    generalize l.flatMap mC3 = C at HS ⊢
    clear h
    generalize l.length = n at *
    go_enter Try.func42, Try.ntmps42
    go_wp2_with (refine Sg.wpList_appendO Bk.elW rfl (.tmp 5) (.tmp 6) 27 rfl rfl rfl (Bk.empty 88 6 w.heap.size _ _) (by simp) (HS.out _ (by first | exact (Below.refl _ _).alloc (Nat.le_refl _) _ | exact Below.refl _ _)) (by omega) ?_; intro s' c' n' w' hn h1 hk; rw [Nat.zero_add] at hn; subst hn)
    go_ret
    rw [List.nil_append] at h1
    exact ⟨s', c', _, rfl, rfl, h1, Bk.kept_below ((Below.refl _ _).alloc (Nat.le_refl _) _) hk⟩
/-- A matrix that is being copied: so many of its lists are laid anew; the result's block beside it. -/
structure Bk.Cq (W w : World) (m : Mx.M) (a : Ma) (i : Nat) : Prop where
  bel : Below W.heap.size W w
  row : RowT 29 w W.heap.size (mCs m a)
  rz : RowT 29 w (W.heap.size + 1) #[.int .i64 0, .int .i64 0, .int .i64 0, .int .i64 0, .int .i64 0, .int .i64 0, .int .i64 0, .int .u32 0, .slice none 0 0, .slice none 0 0, .slice none 0 0]
  o1 : 1 ≤ i → Sg.OL 3 1 W.heap.size w a.s1 a.c1 m.masters.length (m.masters.flatMap mC1)
  o2 : 2 ≤ i → Sg.OL 62 3 W.heap.size w a.s2 a.c2 m.messages.length (m.messages.flatMap mC2)
  o3 : 3 ≤ i → Sg.OL 88 6 W.heap.size w a.s3 a.c3 m.windows.length (m.windows.flatMap mC3)
theorem Bk.Cq.on {W w w' : World} {m : Mx.M} {a : Ma} {i : Nat} (h : Bk.Cq W w m a i) (hb : Below w.heap.size w w') : Bk.Cq W w' m a i :=
  ⟨h.bel.trans (hb.mono h.bel.size), h.row.on hb, h.rz.on hb, fun k => (h.o1 k).on hb, fun k => (h.o2 k).on hb, fun k => (h.o3 k).on hb⟩
theorem Bk.Cq.row1 {W w : World} {m : Mx.M} {a : Ma} {i : Nat} (h : Bk.Cq W w m a i) (k : Nat) (v : Value) : RowT 29 (w.setCell ⟨W.heap.size, k, none⟩ v) (W.heap.size + 1) #[.int .i64 0, .int .i64 0, .int .i64 0, .int .i64 0, .int .i64 0, .int .i64 0, .int .i64 0, .int .u32 0, .slice none 0 0, .slice none 0 0, .slice none 0 0] :=
  h.rz.kept (Kept.set (F := fun j => j = W.heap.size) _ _ _ rfl) (by omega)
theorem Bk.ol_set {W w : World} {e : TypeId} {sz : Nat} {s : Option Addr} {c n : Nat} {C : List Value} {cs : Array Value} (h : Sg.OL e sz W.heap.size w s c n C) (hr : RowT 29 w W.heap.size cs) (hT : 29 ≠ e) (k : Nat) (v : Value) : Sg.OL e sz W.heap.size (w.setCell ⟨W.heap.size, k, none⟩ v) s c n C :=
  h.kept (Kept.set (F := fun j => j = W.heap.size) _ _ _ rfl) (fun g hg e => by subst e; exact Bk.ol_ne h hr hT hg)
theorem Bk.Cq.put1 {W w : World} {m : Mx.M} {a : Ma} {s : Option Addr} {c n : Nat} (h : Bk.Cq W w m a 0) (h1 : Sg.OL 3 1 W.heap.size w s c n (m.masters.flatMap mC1)) (hn : n = m.masters.length) : Bk.Cq W (w.setCell ⟨W.heap.size, 8, none⟩ (.slice s n c)) m ⟨s, c, a.s2, a.c2, a.s3, a.c3⟩ 1 := by
  subst hn
  refine ⟨h.bel.setCell (Nat.le_refl _) _, ?_, h.row1 _ _, fun _ => Bk.ol_set h1 h.row (by decide) _ _, fun k => by omega, fun k => by omega⟩
  have e : (mCs m a).setIfInBounds 8 (.slice s m.masters.length c) = mCs m ⟨s, c, a.s2, a.c2, a.s3, a.c3⟩ := by unfold mCs; simp
  rw [← e]
  exact h.row.set 8 _
theorem Bk.Cq.put2 {W w : World} {m : Mx.M} {a : Ma} {s : Option Addr} {c n : Nat} (h : Bk.Cq W w m a 1) (h1 : Sg.OL 62 3 W.heap.size w s c n (m.messages.flatMap mC2)) (hn : n = m.messages.length) : Bk.Cq W (w.setCell ⟨W.heap.size, 9, none⟩ (.slice s n c)) m ⟨a.s1, a.c1, s, c, a.s3, a.c3⟩ 2 := by
  subst hn
  refine ⟨h.bel.setCell (Nat.le_refl _) _, ?_, h.row1 _ _, fun _ => Bk.ol_set (h.o1 (by omega)) h.row (by decide) _ _, fun _ => Bk.ol_set h1 h.row (by decide) _ _, fun k => by omega⟩
  have e : (mCs m a).setIfInBounds 9 (.slice s m.messages.length c) = mCs m ⟨a.s1, a.c1, s, c, a.s3, a.c3⟩ := by unfold mCs; simp
  rw [← e]
  exact h.row.set 9 _
theorem Bk.Cq.put3 {W w : World} {m : Mx.M} {a : Ma} {s : Option Addr} {c n : Nat} (h : Bk.Cq W w m a 2) (h1 : Sg.OL 88 6 W.heap.size w s c n (m.windows.flatMap mC3)) (hn : n = m.windows.length) : Bk.Cq W (w.setCell ⟨W.heap.size, 10, none⟩ (.slice s n c)) m ⟨a.s1, a.c1, a.s2, a.c2, s, c⟩ 3 := by
  subst hn
  refine ⟨h.bel.setCell (Nat.le_refl _) _, ?_, h.row1 _ _, fun _ => Bk.ol_set (h.o1 (by omega)) h.row (by decide) _ _, fun _ => Bk.ol_set (h.o2 (by omega)) h.row (by decide) _ _, fun _ => Bk.ol_set h1 h.row (by decide) _ _⟩
  have e : (mCs m a).setIfInBounds 10 (.slice s m.windows.length c) = mCs m ⟨a.s1, a.c1, a.s2, a.c2, s, c⟩ := by unfold mCs; simp
  rw [← e]
  exact h.row.set 10 _
/-- Three lists, each one's own. -/
structure Bk.Own3 (B : Nat) (w : World) (m : Mx.M) (a : Ma) : Prop where
  o1 : Sg.OL 3 1 B w a.s1 a.c1 m.masters.length (m.masters.flatMap mC1)
  o2 : Sg.OL 62 3 B w a.s2 a.c2 m.messages.length (m.messages.flatMap mC2)
  o3 : Sg.OL 88 6 B w a.s3 a.c3 m.windows.length (m.windows.flatMap mC3)
theorem Bk.Cq.fin {W w : World} {m : Mx.M} {a : Ma} (h : Bk.Cq W w m a 3) (cs : Array Value) : RowT 29 (w.setRow (W.heap.size + 1) cs) (W.heap.size + 1) cs ∧ Bk.Own3 W.heap.size (w.setRow (W.heap.size + 1) cs) m a ∧ Below W.heap.size W (w.setRow (W.heap.size + 1) cs) := by
  have hk : Kept (fun j => j = W.heap.size + 1) w (w.setRow (W.heap.size + 1) cs) := ⟨rfl, rfl, rfl, by simp [World.setRow], fun k _ hk => setRow_other w _ k _ (fun e => hk (by omega))⟩
  refine ⟨setRow_heap w _ _ _ _ _ h.rz, ⟨?_, ?_, ?_⟩, below_setRow h.bel (by omega) _⟩
  · exact (h.o1 (by omega)).kept hk (fun g hg e => by subst e; exact Bk.ol_ne (h.o1 (by omega)) h.rz (by decide) hg)
  · exact (h.o2 (by omega)).kept hk (fun g hg e => by subst e; exact Bk.ol_ne (h.o2 (by omega)) h.rz (by decide) hg)
  · exact (h.o3 (by omega)).kept hk (fun g hg e => by subst e; exact Bk.ol_ne (h.o3 (by omega)) h.rz (by decide) hg)
theorem Bk.minfo : (Try.prog.info? 29).map (·.size) = some 11 := by kernel_rfl
theorem Bk.mcs_one (m : Mx.M) (a : Ma) : (mCs m a).all (·.oneCell') = true := by simp [mCs, Value.oneCell']
set_option maxRecDepth 100000 in
set_option maxHeartbeats 4000000 in
theorem mk_copy (W : World) (m : Mx.M) (a : Ma) (hm : MIn W m a) (hS : Mx.Small m) : Calls Try.prog 24 #[mV m a] W fun e w' => ∃ a', e = .returned (mV m a') ∧ Bk.Own3 W.heap.size w' m a' ∧ Below W.heap.size W w' := by
  have hsz : (W.alloc (.cells (mCs m a) 29)).heap.size = W.heap.size + 1 := by simp
  have HC : Hid (Bk.Cq W ((W.alloc (.cells (mCs m a) 29)).alloc (.cells #[.int .i64 0, .int .i64 0, .int .i64 0, .int .i64 0, .int .i64 0, .int .i64 0, .int .i64 0, .int .u32 0, .slice none 0 0, .slice none 0 0, .slice none 0 0] 29)) m a 0) := by
    refine ⟨((Below.refl _ _).alloc (Nat.le_refl _) _).alloc (by omega) _, (RowT.new 29 W (mCs m a)).on ((Below.refl _ _).alloc (Nat.le_refl _) _), ?_, fun k => by omega, fun k => by omega, fun k => by omega⟩
    rw [← hsz]
    exact RowT.new _ _ _
  have C1 : Hid (∀ w', Below W.heap.size W w' → Calls Try.prog 40 #[.slice a.s1 m.masters.length a.c1] w' fun e w'' => ∃ s c n, n = m.masters.length ∧ e = .returned (.slice s n c) ∧ Sg.OL 3 1 w'.heap.size w'' s c n (m.masters.flatMap mC1) ∧ Below w'.heap.size w' w'') := fun w' hb => mk_clone1 w' m.masters a.s1 a.c1 (hm.l1.on hb) hS.a
  have C2 : Hid (∀ w', Below W.heap.size W w' → Calls Try.prog 41 #[.slice a.s2 m.messages.length a.c2] w' fun e w'' => ∃ s c n, n = m.messages.length ∧ e = .returned (.slice s n c) ∧ Sg.OL 62 3 w'.heap.size w'' s c n (m.messages.flatMap mC2) ∧ Below w'.heap.size w' w'') := fun w' hb => mk_clone2 w' m.messages a.s2 a.c2 (hm.l2.on hb) hS.b
  have C3 : Hid (∀ w', Below W.heap.size W w' → Calls Try.prog 42 #[.slice a.s3 m.windows.length a.c3] w' fun e w'' => ∃ s c n, n = m.windows.length ∧ e = .returned (.slice s n c) ∧ Sg.OL 88 6 w'.heap.size w'' s c n (m.windows.flatMap mC3) ∧ Below w'.heap.size w' w'') := fun w' hb => mk_clone3 w' m.windows a.s3 a.c3 (hm.l3.on hb) hS.c
  clear hm hS hsz
  show Calls _ _ #[.agg (mCs m a)] _ _
  go_enter Try.func24, Try.ntmps24
  go_upto_region 1 with fail
  generalize (W.alloc (.cells (mCs m a) 29)).alloc (.cells #[.int .i64 0, .int .i64 0, .int .i64 0, .int .i64 0, .int .i64 0, .int .i64 0, .int .i64 0, .int .u32 0, .slice none 0 0, .slice none 0 0, .slice none 0 0] 29) = v0 at HC ⊢
  obtain ⟨_, _, _, _, _, _, _, _, x8, _, _⟩ := HC.out.row.mat
  go_wp2_with fail
  refine (C1.out _ HC.out.bel).mono ?_
  rintro e w1 ⟨s1, c1, n1, hn, rfl, ho, hb⟩
  clear x8
  have HO := ho.mono HC.out.bel.size
  replace HC : Hid (Bk.Cq W w1 m a 0) := HC.out.on hb
  have x8 := HC.out.row.c 8 _ rfl
  have f8 := HC.out.row.f 8
  replace HC : Hid (Bk.Cq W (w1.setCell ⟨W.heap.size, 8, none⟩ (.slice s1 n1 c1)) m ⟨s1, c1, a.s2, a.c2, a.s3, a.c3⟩ 1) := HC.out.put1 HO hn
  clear HO ho hb hn
  go_upto_region 2 with fail
  clear x8 f8
  generalize w1.setCell ⟨W.heap.size, 8, none⟩ (.slice s1 n1 c1) = v1 at HC ⊢
  obtain ⟨_, _, _, _, _, _, _, _, _, x9, _⟩ := HC.out.row.mat
  go_wp2_with fail
  refine (C2.out _ HC.out.bel).mono ?_
  rintro e w2 ⟨s2, c2, n2, hn, rfl, ho, hb⟩
  clear x9
  have HO := ho.mono HC.out.bel.size
  replace HC : Hid (Bk.Cq W w2 m ⟨s1, c1, a.s2, a.c2, a.s3, a.c3⟩ 1) := HC.out.on hb
  have x9 := HC.out.row.c 9 _ rfl
  have f9 := HC.out.row.f 9
  replace HC : Hid (Bk.Cq W (w2.setCell ⟨W.heap.size, 9, none⟩ (.slice s2 n2 c2)) m ⟨s1, c1, s2, c2, a.s3, a.c3⟩ 2) := HC.out.put2 HO hn
  clear HO ho hb hn
  go_upto_region 3 with fail
  clear x9 f9
  generalize w2.setCell ⟨W.heap.size, 9, none⟩ (.slice s2 n2 c2) = v2 at HC ⊢
  obtain ⟨_, _, _, _, _, _, _, _, _, _, x10⟩ := HC.out.row.mat
  go_wp2_with fail
  refine (C3.out _ HC.out.bel).mono ?_
  rintro e w3 ⟨s3, c3, n3, hn, rfl, ho, hb⟩
  clear x10
  have HO := ho.mono HC.out.bel.size
  replace HC : Hid (Bk.Cq W w3 m ⟨s1, c1, s2, c2, a.s3, a.c3⟩ 2) := HC.out.on hb
  have x10 := HC.out.row.c 10 _ rfl
  have f10 := HC.out.row.f 10
  replace HC : Hid (Bk.Cq W (w3.setCell ⟨W.heap.size, 10, none⟩ (.slice s3 n3 c3)) m ⟨s1, c1, s2, c2, s3, c3⟩ 3) := HC.out.put3 HO hn
  clear HO ho hb hn
  go_upto_region 4 with fail
  clear x10 f10
  generalize w3.setCell ⟨W.heap.size, 10, none⟩ (.slice s3 n3 c3) = v3 at HC ⊢
  obtain ⟨x0, x1, x2, x3, x4, x5, x6, x7, x8, x9, x10⟩ := HC.out.row.mat
  go_wp2_with (refine wpList_store_row (P := Try.prog) rfl 29 (.tmp 2) (.tmp 15) rfl (W.heap.size + 1) (mCs m ⟨s1, c1, s2, c2, s3, c3⟩) rfl rfl 29 _ HC.out.rz Bk.minfo rfl (Bk.mcs_one _ _) ?_)
  obtain ⟨hz, hO, hbl⟩ := HC.out.fin (mCs m ⟨s1, c1, s2, c2, s3, c3⟩)
  clear HC x0 x1 x2 x3 x4 x5 x6 x7 x8 x9 x10
  generalize v3.setRow (W.heap.size + 1) (mCs m ⟨s1, c1, s2, c2, s3, c3⟩) = wz at hz hO hbl ⊢
  obtain ⟨z0, z1, z2, z3, z4, z5, z6, z7, z8, z9, z10⟩ := hz.mat
  exact bodyPost_ret (v := mV m ⟨s1, c1, s2, c2, s3, c3⟩) (by simp [results, Try.results24, go_sem, mV, mCs, z0, z1, z2, z3, z4, z5, z6, z7, z8, z9, z10]) rfl ⟨_, rfl, hO, hbl⟩
end Go.Proofs.Ytkgeknkppnadfaa
