/- Layer 13: the document's Parse: what lies side by side while it reads. -/
import Derived.Test.YtcdalfhmmipiaaaDoorP3
namespace Go.Proofs.YtcdalfhmmipiaaaDoor
open Go.RowKit Go.WideShapes
set_option linter.unusedVariables false
theorem row_ne {w : World} {g g' : Nat} {c c' : Array Value} {t t' : TypeId} (h : RowT t w g c) (h' : RowT t' w g' c') (ht : t ≠ t') : g ≠ g' := fun e => by
  subst e
  have h1 : w.heap[g]? = some (.cells c t (0, 0)) := h
  have h2 : w.heap[g]? = some (.cells c' t' (0, 0)) := h'
  rw [h1] at h2
  injection h2 with h2
  injection h2 with _ e
  exact ht e
/-- A list's own block is none of another type. -/
theorem Sg.OL.ne {e : TypeId} {sz B : Nat} {w : World} {s : Option Addr} {c n : Nat} {C : List Value} (h : Sg.OL e sz B w s c n C) {T : TypeId} {p : Nat} {cs : Array Value} (hr : RowT T w p cs) (hT : T ≠ e) : ¬ Sg.At_ s c p := fun ⟨h0, e1⟩ => by
  obtain ⟨g, o, cur, e2, _, hh⟩ := h.ty h0
  rw [e2] at e1
  injection e1 with e1
  dsimp only at e1
  subst e1
  exact row_ne (show RowT e w g cur from hh) hr (fun k => hT k.symm) rfl
theorem Sg.OL.ne2 {e e' : TypeId} {sz sz' B B' : Nat} {w : World} {s s' : Option Addr} {c c' n n' : Nat} {C C' : List Value} (h : Sg.OL e sz B w s c n C) (h' : Sg.OL e' sz' B' w s' c' n' C') (hT : e ≠ e') : ∀ g, Sg.At_ s c g → ¬ Sg.At_ s' c' g := fun g ⟨h0, e1⟩ => by
  obtain ⟨g1, o, cur, e2, _, hh⟩ := h.ty h0
  rw [e2] at e1
  injection e1 with e1
  dsimp only at e1
  subst e1
  exact h'.ne (show RowT e w g1 cur from hh) hT
/-- The matrix that is read, the reader, the result, three lists. -/
structure Ps (W w : World) (p2 pm pq : Nat) (r : Pq.R) (m : Mx.M) (a : Ma) : Prop where
  bel : Below W.heap.size W w
  b2 : W.heap.size ≤ p2
  bm : W.heap.size ≤ pm
  bq : W.heap.size ≤ pq
  ne : p2 ≠ pm
  rz : RowT 27 w p2 (mCs ⟨0, 0, 0, 0, 0, 0, 0, 0, [], [], []⟩ ⟨none, 0, none, 0, none, 0⟩)
  rm : RowT 27 w pm (mCs m a)
  rr : RowT 60 w pq (rC r)
  o1 : Sg.OL 3 1 W.heap.size w a.s1 a.c1 m.masters.length (m.masters.flatMap mC1)
  o2 : Sg.OL 49 3 W.heap.size w a.s2 a.c2 m.messages.length (m.messages.flatMap mC2)
  o3 : Sg.OL 52 6 W.heap.size w a.s3 a.c3 m.windows.length (m.windows.flatMap mC3)
section
variable {W w w' : World} {p2 pm pq : Nat} {r r' : Pq.R} {m : Mx.M} {a : Ma}
theorem Ps.on (h : Ps W w p2 pm pq r m a) (hb : Below w.heap.size w w') : Ps W w' p2 pm pq r m a := ⟨h.bel.trans (hb.mono h.bel.size), h.b2, h.bm, h.bq, h.ne, h.rz.on hb, h.rm.on hb, h.rr.on hb, h.o1.on hb, h.o2.on hb, h.o3.on hb⟩
theorem Ps.al (h : Ps W w p2 pm pq r m a) (o : Obj) : Ps W (w.alloc o) p2 pm pq r m a := h.on ((Below.refl _ _).alloc (Nat.le_refl _) _)
theorem Ps.mem (h : Ps W w p2 pm pq r m a) : MIn w m a := ⟨h.o1.sl.li, h.o2.sl.li, h.o3.sl.li⟩
/-- The reader has read on. -/
theorem Ps.rd (h : Ps W w p2 pm pq r m a) (hr : RowT 60 w' pq (rC r')) (hk : Kept (fun j => j = pq) w w') : Ps W w' p2 pm pq r' m a :=
  ⟨h.bel.trans (hk.below (fun g hg => by rw [hg]; exact h.bq) h.bel.size), h.b2, h.bm, h.bq, h.ne, h.rz.kept hk (row_ne h.rz h.rr (by decide)), h.rm.kept hk (row_ne h.rm h.rr (by decide)), hr,
    h.o1.kept hk (fun g hg e => by subst e; exact h.o1.ne h.rr (by decide) hg), h.o2.kept hk (fun g hg e => by subst e; exact h.o2.ne h.rr (by decide) hg), h.o3.kept hk (fun g hg e => by subst e; exact h.o3.ne h.rr (by decide) hg)⟩
/-- A word of the matrix is set. -/
theorem Ps.word {m' : Mx.M} (h : Ps W w p2 pm pq r m a) (k : Nat) (v : Value) (hc : (mCs m a).setIfInBounds k v = mCs m' a) (e1 : m'.masters = m.masters) (e2 : m'.messages = m.messages) (e3 : m'.windows = m.windows) : Ps W (w.setCell ⟨pm, k, none⟩ v) p2 pm pq r m' a := by
  have hk : Kept (fun j => j = pm) w (w.setCell ⟨pm, k, none⟩ v) := Kept.set _ _ _ rfl
  refine ⟨h.bel.setCell h.bm _, h.b2, h.bm, h.bq, h.ne, h.rz.kept hk h.ne, by rw [← hc]; exact h.rm.set k v, h.rr.kept hk (row_ne h.rr h.rm (by decide)), ?_, ?_, ?_⟩
  · rw [e1]; exact h.o1.kept hk (fun g hg e => by subst e; exact h.o1.ne h.rm (by decide) hg)
  · rw [e2]; exact h.o2.kept hk (fun g hg e => by subst e; exact h.o2.ne h.rm (by decide) hg)
  · rw [e3]; exact h.o3.kept hk (fun g hg e => by subst e; exact h.o3.ne h.rm (by decide) hg)
/-- One more master, and the matrix told so. -/
theorem Ps.app1 {s' : Option Addr} {c' n' : Nat} {x : Int} (h : Ps W w p2 pm pq r m a) (h1 : Sg.OL 3 1 W.heap.size w' s' c' n' (m.masters.flatMap mC1 ++ [.int .i64 x])) (hn : n' = m.masters.length + 1) (hk : Kept (Sg.At_ a.s1 a.c1) w w') :
    Ps W (w'.setCell ⟨pm, 8, none⟩ (.slice s' n' c')) p2 pm pq r { m with masters := m.masters ++ [x] } { a with s1 := s', c1 := c' } ∧ w'.frozen? ⟨pm, 8, none⟩ = false ∧ w'.cell? ⟨pm, 8, none⟩ = some (.slice a.s1 m.masters.length a.c1) := by
  subst hn
  have rm' : RowT 27 w' pm (mCs m a) := h.o1.row hk h.rm (by decide)
  have rz' := h.o1.row hk h.rz (by decide)
  have rr' := h.o1.row hk h.rr (by decide)
  have o2' := h.o2.kept hk (h.o2.ne2 h.o1 (by decide))
  have o3' := h.o3.kept hk (h.o3.ne2 h.o1 (by decide))
  have hk8 : Kept (fun j => j = pm) w' (w'.setCell ⟨pm, 8, none⟩ (.slice s' (m.masters.length + 1) c')) := Kept.set _ _ _ rfl
  have hb := h.bel.trans (h.o1.below hk h.bel.size)
  refine ⟨⟨hb.setCell h.bm _, h.b2, h.bm, h.bq, h.ne, rz'.kept hk8 h.ne, ?_, rr'.kept hk8 (row_ne rr' rm' (by decide)), ?_, o2'.kept hk8 (fun g hg e => by subst e; exact o2'.ne rm' (by decide) hg), o3'.kept hk8 (fun g hg e => by subst e; exact o3'.ne rm' (by decide) hg)⟩, rm'.f 8, rm'.c 8 _ rfl⟩
  · have e : (mCs m a).setIfInBounds 8 (.slice s' (m.masters.length + 1) c') = mCs { m with masters := m.masters ++ [x] } { a with s1 := s', c1 := c' } := by unfold mCs; simp
    rw [← e]
    exact rm'.set 8 _
  · have : Sg.OL 3 1 W.heap.size w' s' c' (m.masters ++ [x]).length ((m.masters ++ [x]).flatMap mC1) := by
      rw [List.length_append, List.flatMap_append]
      exact h1
    exact this.kept hk8 (fun g hg e => by subst e; exact this.ne rm' (by decide) hg)
theorem Ps.app2 {s' : Option Addr} {c' n' : Nat} {x : Mx.Msg} (h : Ps W w p2 pm pq r m a) (h1 : Sg.OL 49 3 W.heap.size w' s' c' n' (m.messages.flatMap mC2 ++ mC2 x)) (hn : n' = m.messages.length + 1) (hk : Kept (Sg.At_ a.s2 a.c2) w w') :
    Ps W (w'.setCell ⟨pm, 9, none⟩ (.slice s' n' c')) p2 pm pq r { m with messages := m.messages ++ [x] } { a with s2 := s', c2 := c' } ∧ w'.frozen? ⟨pm, 9, none⟩ = false ∧ w'.cell? ⟨pm, 9, none⟩ = some (.slice a.s2 m.messages.length a.c2) := by
  subst hn
  have rm' : RowT 27 w' pm (mCs m a) := h.o2.row hk h.rm (by decide)
  have rz' := h.o2.row hk h.rz (by decide)
  have rr' := h.o2.row hk h.rr (by decide)
  have o1' := h.o1.kept hk (h.o1.ne2 h.o2 (by decide))
  have o3' := h.o3.kept hk (h.o3.ne2 h.o2 (by decide))
  have hk8 : Kept (fun j => j = pm) w' (w'.setCell ⟨pm, 9, none⟩ (.slice s' (m.messages.length + 1) c')) := Kept.set _ _ _ rfl
  have hb := h.bel.trans (h.o2.below hk h.bel.size)
  refine ⟨⟨hb.setCell h.bm _, h.b2, h.bm, h.bq, h.ne, rz'.kept hk8 h.ne, ?_, rr'.kept hk8 (row_ne rr' rm' (by decide)), o1'.kept hk8 (fun g hg e => by subst e; exact o1'.ne rm' (by decide) hg), ?_, o3'.kept hk8 (fun g hg e => by subst e; exact o3'.ne rm' (by decide) hg)⟩, rm'.f 9, rm'.c 9 _ rfl⟩
  · have e : (mCs m a).setIfInBounds 9 (.slice s' (m.messages.length + 1) c') = mCs { m with messages := m.messages ++ [x] } { a with s2 := s', c2 := c' } := by unfold mCs; simp
    rw [← e]
    exact rm'.set 9 _
  · have : Sg.OL 49 3 W.heap.size w' s' c' (m.messages ++ [x]).length ((m.messages ++ [x]).flatMap mC2) := by
      rw [List.length_append, List.flatMap_append]
      simpa using h1
    exact this.kept hk8 (fun g hg e => by subst e; exact this.ne rm' (by decide) hg)
theorem Ps.app3 {s' : Option Addr} {c' n' : Nat} {x : Mx.Win} (h : Ps W w p2 pm pq r m a) (h1 : Sg.OL 52 6 W.heap.size w' s' c' n' (m.windows.flatMap mC3 ++ mC3 x)) (hn : n' = m.windows.length + 1) (hk : Kept (Sg.At_ a.s3 a.c3) w w') :
    Ps W (w'.setCell ⟨pm, 10, none⟩ (.slice s' n' c')) p2 pm pq r { m with windows := m.windows ++ [x] } { a with s3 := s', c3 := c' } ∧ w'.frozen? ⟨pm, 10, none⟩ = false ∧ w'.cell? ⟨pm, 10, none⟩ = some (.slice a.s3 m.windows.length a.c3) := by
  subst hn
  have rm' : RowT 27 w' pm (mCs m a) := h.o3.row hk h.rm (by decide)
  have rz' := h.o3.row hk h.rz (by decide)
  have rr' := h.o3.row hk h.rr (by decide)
  have o1' := h.o1.kept hk (h.o1.ne2 h.o3 (by decide))
  have o2' := h.o2.kept hk (h.o2.ne2 h.o3 (by decide))
  have hk8 : Kept (fun j => j = pm) w' (w'.setCell ⟨pm, 10, none⟩ (.slice s' (m.windows.length + 1) c')) := Kept.set _ _ _ rfl
  have hb := h.bel.trans (h.o3.below hk h.bel.size)
  refine ⟨⟨hb.setCell h.bm _, h.b2, h.bm, h.bq, h.ne, rz'.kept hk8 h.ne, ?_, rr'.kept hk8 (row_ne rr' rm' (by decide)), o1'.kept hk8 (fun g hg e => by subst e; exact o1'.ne rm' (by decide) hg), o2'.kept hk8 (fun g hg e => by subst e; exact o2'.ne rm' (by decide) hg), ?_⟩, rm'.f 10, rm'.c 10 _ rfl⟩
  · have e : (mCs m a).setIfInBounds 10 (.slice s' (m.windows.length + 1) c') = mCs { m with windows := m.windows ++ [x] } { a with s3 := s', c3 := c' } := by unfold mCs; simp
    rw [← e]
    exact rm'.set 10 _
  · have : Sg.OL 52 6 W.heap.size w' s' c' (m.windows ++ [x]).length ((m.windows ++ [x]).flatMap mC3) := by
      rw [List.length_append, List.flatMap_append]
      simpa using h1
    exact this.kept hk8 (fun g hg e => by subst e; exact this.ne rm' (by decide) hg)
end
end Go.Proofs.YtcdalfhmmipiaaaDoor
