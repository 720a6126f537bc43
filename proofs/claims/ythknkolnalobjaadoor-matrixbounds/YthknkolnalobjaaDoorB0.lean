/- Matrices: what package matrix is said to do, whatever it is made of; law 12's own few, least. -/
import Derived.Test.YthknkolnalobjaaDoorMo
import Derived.Test.YthknkolnalobjaaDoorU2
import Derived.WalkArith
namespace Go.Proofs.YthknkolnalobjaaDoor
open Go.RowKit Go.WideShapes
set_option linter.unusedVariables false
/-- A matrix whose lists lie each in a block of its own, none of them older than so many blocks. -/
structure Fresh (B : Nat) (w : World) (m : Mx.M) (a : Ma) : Prop where
  n1 : 0 < m.masters.length → ∃ g o cur, a.s1 = some ⟨g, o, none⟩ ∧ B ≤ g ∧ w.heap[g]? = some (.cells cur 3 (0, 0))
  n2 : 0 < m.messages.length → ∃ g o cur, a.s2 = some ⟨g, o, none⟩ ∧ B ≤ g ∧ w.heap[g]? = some (.cells cur 41 (0, 0))
  n3 : 0 < m.windows.length → ∃ g o cur, a.s3 = some ⟨g, o, none⟩ ∧ B ≤ g ∧ w.heap[g]? = some (.cells cur 45 (0, 0))
  r1 : m.masters.length < a.c1 → ∃ g o cur, a.s1 = some ⟨g, o, none⟩ ∧ B ≤ g ∧ w.heap[g]? = some (.cells cur 3 (0, 0)) ∧ o + a.c1 ≤ cur.size
theorem Fresh.on {B : Nat} {w w' : World} {m : Mx.M} {a : Ma} (h : Fresh B w m a) (hb : Below w.heap.size w w') : Fresh B w' m a := by
  have lt : ∀ {g : Nat} {O : Obj}, w.heap[g]? = some O → g < w.heap.size := fun h => (Array.getElem?_eq_some_iff.1 h).1
  refine ⟨fun k => ?_, fun k => ?_, fun k => ?_, fun k => ?_⟩
  · obtain ⟨g, o, cur, e, hB, hh⟩ := h.n1 k; exact ⟨g, o, cur, e, hB, (hb.block g (lt hh)).trans hh⟩
  · obtain ⟨g, o, cur, e, hB, hh⟩ := h.n2 k; exact ⟨g, o, cur, e, hB, (hb.block g (lt hh)).trans hh⟩
  · obtain ⟨g, o, cur, e, hB, hh⟩ := h.n3 k; exact ⟨g, o, cur, e, hB, (hb.block g (lt hh)).trans hh⟩
  · obtain ⟨g, o, cur, e, hB, hh, hl⟩ := h.r1 k; exact ⟨g, o, cur, e, hB, (hb.block g (lt hh)).trans hh, hl⟩
structure MatSpec (Q : World → Prop) : Prop where
  is : ∀ (w : World) (m : Mx.M) (a : Ma), Q w → MIn w m a → Mx.Small m → Mx.Wf m → Ob.Looks Tryd.prog 13 #[mV m a] w (.bool (Mx.is m))
  same : ∀ (w : World) (m n : Mx.M) (a b : Ma), Q w → MIn w m a → MIn w n b → Mx.Small m → Mx.Small n → Mx.Wf m → Mx.Wf n → Ob.Looks Tryd.prog 15 #[mV m a, mV n b] w (.bool (decide (m = n)))
  find : ∀ (w : World) (m : Mx.M) (a : Ma) (ext rtr : Bool) (id : Nat) (d : ByteArray), Q w → MIn w m a → Mx.Small m → Mx.Wf m → id < 4294967296 → Ob.Looks Tryd.prog 17 #[mV m a, .agg #[.bool ext, .int .u32 (id : Int), .bool rtr, .string d]] w (.int .i64 (Mx.find m ext rtr id))
  frame : ∀ (w : World) (m : Mx.M) (a : Ma) (msg : Int) (d : ByteArray), Q w → MIn w m a → Mx.Small m → Mx.Wf m → (Lit.int .i64 msg).wf = true → d.size ≤ 1000 → Ob.Looks Tryd.prog 10 #[mV m a, .int .i64 msg, .string d] w (fVal (Mx.fid m msg d.size) d)
  rank : ∀ (w : World) (m : Mx.M) (a : Ma) (who : Int), Q w → MIn w m a → Mx.Small m → Mx.Wf m → (Lit.int .i64 who).wf = true → Ob.Looks Tryd.prog 19 #[mV m a, .int .i64 who] w (.int .i64 (Mx.rank m who))
  comes : ∀ (w : World) (cy rp now : Int), Q w → (Lit.int .i64 cy).wf = true → (Lit.int .i64 rp).wf = true → (Lit.int .i64 now).wf = true → Ob.Looks Tryd.prog 21 #[.int .i64 cy, .int .i64 rp, .int .i64 now] w (.bool (Mx.comes cy rp now))
  copy : ∀ (w : World) (m : Mx.M) (a : Ma), Q w → MIn w m a → Mx.Small m → Mx.Wf m → Calls Tryd.prog 12 #[mV m a] w fun e w' => ∃ a', e = .returned (mV m a') ∧ MIn w' m a' ∧ Fresh w.heap.size w' m a' ∧ Below w.heap.size w w'
def Mx.few (m : Mx.M) : Bool := decide (m.masters.length ≤ 10) && decide (m.messages.length ≤ 20) && decide (m.windows.length ≤ 25)
theorem Mx.few_small {m : Mx.M} (h : Mx.few m = true) : Mx.Small m := by
  simp only [Mx.few, Bool.and_eq_true, decide_eq_true_eq] at h
  exact ⟨by omega, by omega, by omega⟩
set_option maxRecDepth 100000 in
set_option maxHeartbeats 1000000 in
theorem few12_any (w : World) (m : Mx.M) (a : Ma) : Ob.Looks Tryd.prog 9 #[mV m a] w (.bool (Mx.few m)) := by
  have HR : RowT 27 (w.alloc (.cells (mCs m a) 27)) w.heap.size (mCs m a) := RowT.new _ _ _
  obtain ⟨_, _, _, _, _, _, _, _, x8, x9, x10⟩ := HR.mat
  unfold Ob.Looks
  show Calls _ _ #[.agg (mCs m a)] _ _
  generalize mCs m a = cs at x8 x9 x10 ⊢
  clear HR
  unfold Mx.few
  generalize m.masters.length = n1 at x8 ⊢
  generalize m.messages.length = n2 at x9 ⊢
  generalize m.windows.length = n3 at x10 ⊢
  by_cases h1 : n1 ≤ 10
  · have i1 : (n1 : Int) ≤ 10 := by omega
    by_cases h2 : n2 ≤ 20
    · have i2 : (n2 : Int) ≤ 20 := by omega
      by_cases h3 : n3 ≤ 25
      · have i3 : (n3 : Int) ≤ 25 := by omega
        go_enter Tryd.func9, Tryd.ntmps9
        go_wp2
        go_ret
        exact ⟨by simp_all, (Below.refl _ _).alloc (Nat.le_refl _) _⟩
      · have i3 : ¬ ((n3 : Int) ≤ 25) := by omega
        go_enter Tryd.func9, Tryd.ntmps9
        go_wp2
        go_ret
        exact ⟨by simp_all, (Below.refl _ _).alloc (Nat.le_refl _) _⟩
    · have i2 : ¬ ((n2 : Int) ≤ 20) := by omega
      go_enter Tryd.func9, Tryd.ntmps9
      go_wp2
      go_ret
      exact ⟨by simp_all, (Below.refl _ _).alloc (Nat.le_refl _) _⟩
  · have i1 : ¬ ((n1 : Int) ≤ 10) := by omega
    go_enter Tryd.func9, Tryd.ntmps9
    go_wp2
    go_ret
    exact ⟨by simp_all, (Below.refl _ _).alloc (Nat.le_refl _) _⟩
def Mx.least : Mx.M := ⟨1, 2, 1, 200, 1, 16, 0, 0, [0], [⟨9, 1, false⟩], []⟩
set_option maxRecDepth 100000 in
set_option maxHeartbeats 1000000 in
theorem least_any (w : World) : Calls Tryd.prog 23 #[] w fun e w' => ∃ a, e = .returned (mV Mx.least a) ∧ MIn w' Mx.least a ∧ Fresh w.heap.size w' Mx.least a ∧ Below w.heap.size w w' := by
  go_enter Tryd.func23, Tryd.ntmps23
  go_wp2
  have hs : ∀ (w : World) o, (w.alloc o).heap.size = w.heap.size + 1 := fun w o => by simp
  have h2 : ∀ (o1 o2 : Obj), (((w.alloc o1).alloc o2).alloc (.cells #[.int .u32 9, .int .i64 1, .bool false] 41)).heap[w.heap.size + 1 + 1]? = some (.cells #[.int .u32 9, .int .i64 1, .bool false] 41 (0, 0)) := fun o1 o2 => by
    have := heap_alloc_new ((w.alloc o1).alloc o2) (.cells #[.int .u32 9, .int .i64 1, .bool false] 41)
    rwa [hs, hs] at this
  have h1 : ∀ (o1 o3 : Obj), (((w.alloc o1).alloc (.cells #[.int .i64 0] 3)).alloc o3).heap[w.heap.size + 1]? = some (.cells #[.int .i64 0] 3 (0, 0)) := fun o1 o3 => by
    have h0 := heap_alloc_new (w.alloc o1) (.cells #[.int .i64 0] 3)
    rw [hs] at h0
    have hb : Below ((w.alloc o1).alloc (.cells #[.int .i64 0] 3)).heap.size ((w.alloc o1).alloc (.cells #[.int .i64 0] 3)) (((w.alloc o1).alloc (.cells #[.int .i64 0] 3)).alloc o3) := (Below.refl _ _).alloc (Nat.le_refl _) _
    exact (hb.block _ (by rw [hs, hs]; omega)).trans h0
  refine bodyPost_ret (v := mV Mx.least ⟨some ⟨w.heap.size + 1, 0, none⟩, 1, some ⟨w.heap.size + 1 + 1, 0, none⟩, 1, none, 0⟩) (by simp [results, Tryd.results23, go_sem, mV, mCs, Mx.least]) rfl ⟨_, rfl, ?_, ?_, (((Below.refl _ _).alloc (Nat.le_refl _) _).alloc (by simp) _).alloc (by simp; omega) _⟩
  · refine ⟨⟨Nat.le_refl _, (by decide : 1 ≤ maxLen), Or.inr ⟨w.heap.size + 1, 0, rfl, by simp, fun k v hk => ?_⟩⟩, ⟨Nat.le_refl _, (by decide : 1 ≤ maxLen), Or.inr ⟨w.heap.size + 1 + 1, 0, rfl, by simp, fun k v hk => ?_⟩⟩, ⟨Nat.le_refl _, Nat.zero_le _, Or.inl rfl⟩⟩
    · rw [cell_of_row _ _ _ _ _ _ (h1 _ _), Nat.zero_add]
      rw [← hk]
      simp [Mx.least, mC1]
    · rw [cell_of_row _ _ _ _ _ _ (h2 _ _), Nat.zero_add]
      rw [← hk]
      simp [Mx.least, mC2]
  · exact ⟨fun _ => ⟨w.heap.size + 1, 0, _, rfl, Nat.le_succ _, h1 _ _⟩, fun _ => ⟨w.heap.size + 1 + 1, 0, _, rfl, by omega, h2 _ _⟩, fun h => absurd h (Nat.lt_irrefl 0), fun h => absurd h (Nat.lt_irrefl 1)⟩
end Go.Proofs.YthknkolnalobjaaDoor
