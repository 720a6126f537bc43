/- A matrix in a variable of one's own: its row, and three lists each in blocks of their own type; words set, lists laid anew, a cell of a list set. -/
import Derived.Test.YtnbfnipdiffphaaDoorBc
import Derived.Test.YtnbfnipdiffphaaDoorSg
namespace Go.Proofs.YtnbfnipdiffphaaDoor
open Go.RowKit Go.WideShapes
set_option linter.unusedVariables false
namespace Mb
theorem row_ne {w : World} {g g' : Nat} {c c' : Array Value} {t t' : TypeId} (h : RowT t w g c) (h' : RowT t' w g' c') (ht : t ≠ t') : g ≠ g' := fun e => by
  subst e
  have h1 : w.heap[g]? = some (.cells c t (0, 0)) := h
  have h2 : w.heap[g]? = some (.cells c' t' (0, 0)) := h'
  rw [h1] at h2
  injection h2 with h2
  injection h2 with _ e
  exact ht e
theorem ol_ne {e : TypeId} {sz B : Nat} {w : World} {s : Option Addr} {c n : Nat} {C : List Value} (h : Sg.OL e sz B w s c n C) {T : TypeId} {p : Nat} {cs : Array Value} (hr : RowT T w p cs) (hT : T ≠ e) : ¬ Sg.At_ s c p := fun ⟨h0, e1⟩ => by
  obtain ⟨g, o, cur, e2, _, hh⟩ := h.ty h0
  rw [e2] at e1
  injection e1 with e1
  dsimp only at e1
  subst e1
  exact row_ne (show RowT e w g cur from hh) hr (fun k => hT k.symm) rfl
theorem ol_ne2 {e e' : TypeId} {sz sz' B B' : Nat} {w : World} {s s' : Option Addr} {c c' n n' : Nat} {C C' : List Value} (h : Sg.OL e sz B w s c n C) (h' : Sg.OL e' sz' B' w s' c' n' C') (hT : e ≠ e') : ∀ g, Sg.At_ s c g → ¬ Sg.At_ s' c' g := fun g ⟨h0, e1⟩ => by
  obtain ⟨g1, o, cur, e2, _, hh⟩ := h.ty h0
  rw [e2] at e1
  injection e1 with e1
  dsimp only at e1
  subst e1
  exact ol_ne h' (show RowT e w g1 cur from hh) hT
/-- A list written out. -/
theorem ol_lit (e : TypeId) (sz B : Nat) (w : World) (n : Nat) (C : List Value) (hl : C.length = n * sz) (hB : B ≤ w.heap.size) (hn : n ≤ maxLen) : Sg.OL e sz B (w.alloc (.cells C.toArray e)) (some ⟨w.heap.size, 0, none⟩) n n C := by
  have hh := heap_alloc_new w (.cells C.toArray e)
  refine ⟨⟨Nat.le_refl _, hn, hl, Or.inr ⟨w.heap.size, 0, rfl, by simp, fun k v hk => ?_, fun j hj => ⟨?_, frozen_of_row _ _ _ _ _ hh⟩⟩⟩, fun _ => ⟨w.heap.size, 0, _, rfl, hB, hh⟩⟩
  · rw [Nat.zero_add]
    refine (cell_of_row _ _ _ _ _ _ hh).trans ?_
    simpa using hk
  · rw [Nat.zero_add]
    refine Option.isSome_iff_exists.2 ⟨_, (cell_of_row _ _ _ _ _ _ hh).trans (Array.getElem?_eq_getElem ?_)⟩
    simpa [hl] using hj
/-- A cell of a list set. -/
theorem ol_set {e : TypeId} {sz B : Nat} {w : World} {g o c n : Nat} {C : List Value} (h : Sg.OL e sz B w (some ⟨g, o, none⟩) c n C) (k : Nat) (v : Value) (hk : k < C.length) : Sg.OL e sz B (w.setCell ⟨g, o + k, none⟩ v) (some ⟨g, o, none⟩) c n (C.set k v) := by
  have hc0 : 0 < c := by
    apply Classical.byContradiction
    intro h0
    have h1 := h.sl.1
    have h2 := h.sl.2.2.1
    have : n = 0 := by omega
    rw [this] at h2
    omega
  refine ⟨⟨h.sl.1, h.sl.2.1, by rw [List.length_set]; exact h.sl.2.2.1, Or.inr ?_⟩, fun _ => ?_⟩
  · rcases h.sl.2.2.2 with hz | ⟨g', o', e1, hg, hc, hr⟩
    · omega
    · injection e1 with e1
      injection e1 with e1 e2
      subst e1 e2
      refine ⟨g, o, rfl, by simpa using hg, fun j u hu => ?_, fun j hj => ⟨?_, ?_⟩⟩
      · by_cases hjk : j = k
        · subst hjk
          have : u = v := by
            rw [List.getElem?_set_self hk] at hu
            exact (Option.some.inj hu).symm
          subst this
          exact World.cell?_setCell_same _ _ _ (hc j _ (List.getElem?_eq_getElem hk))
        · rw [List.getElem?_set_ne (fun e => hjk e.symm)] at hu
          rw [World.cell?_setCell_other _ _ _ _ (show (⟨g, o + k, none⟩ : Addr) ≠ ⟨g, o + j, none⟩ from fun e => hjk (by have := (Addr.mk.inj e).2.1; omega))]
          exact hc j u hu
      · by_cases hjk : j = k
        · subst hjk
          rw [World.cell?_setCell_same _ _ _ (hc j _ (List.getElem?_eq_getElem hk))]
          rfl
        · rw [World.cell?_setCell_other _ _ _ _ (show (⟨g, o + k, none⟩ : Addr) ≠ ⟨g, o + j, none⟩ from fun e => hjk (by have := (Addr.mk.inj e).2.1; omega))]
          exact (hr j hj).1
      · have := (hr j hj).2
        rw [World.frozen?_setCell]
        exact this
  · obtain ⟨g', o', cur, e1, hB, hh⟩ := h.ty hc0
    injection e1 with e1
    injection e1 with e1 e2
    subst e1 e2
    exact ⟨g, o, _, rfl, hB, heap_setCell_same _ _ _ _ _ _ hh⟩
end Mb
structure Mb (W w : World) (p : Nat) (m : Mx.M) (a : Ma) : Prop where
  bel : Below W.heap.size W w
  bp : W.heap.size ≤ p
  row : RowT 27 w p (mCs m a)
  o1 : Sg.OL 3 1 W.heap.size w a.s1 a.c1 m.masters.length (m.masters.flatMap mC1)
  o2 : Sg.OL 60 3 W.heap.size w a.s2 a.c2 m.messages.length (m.messages.flatMap mC2)
  o3 : Sg.OL 58 6 W.heap.size w a.s3 a.c3 m.windows.length (m.windows.flatMap mC3)
section
variable {W w w' : World} {p : Nat} {m m' : Mx.M} {a : Ma}
theorem Mb.mem (h : Mb W w p m a) : MIn w m a := ⟨h.o1.sl.li, h.o2.sl.li, h.o3.sl.li⟩
theorem Mb.bx (h : Mb W w p m a) : Bx W w p m a := ⟨h.row, h.mem, h.bel⟩
theorem Mb.on (h : Mb W w p m a) (hb : Below w.heap.size w w') : Mb W w' p m a := ⟨h.bel.trans (hb.mono h.bel.size), h.bp, h.row.on hb, h.o1.on hb, h.o2.on hb, h.o3.on hb⟩
theorem Mb.al (h : Mb W w p m a) (o : Obj) : Mb W (w.alloc o) p m a := h.on ((Below.refl _ _).alloc (Nat.le_refl _) _)
theorem Mb.word (h : Mb W w p m a) (k : Nat) (v : Value) (hc : (mCs m a).setIfInBounds k v = mCs m' a) (e1 : m'.masters = m.masters) (e2 : m'.messages = m.messages) (e3 : m'.windows = m.windows) : Mb W (w.setCell ⟨p, k, none⟩ v) p m' a := by
  have hk : Kept (fun j => j = p) w (w.setCell ⟨p, k, none⟩ v) := Kept.set _ _ _ rfl
  refine ⟨h.bel.setCell h.bp _, h.bp, by rw [← hc]; exact h.row.set k v, ?_, ?_, ?_⟩
  · rw [e1]; exact h.o1.kept hk (fun g hg e => by subst e; exact Mb.ol_ne h.o1 h.row (by decide) hg)
  · rw [e2]; exact h.o2.kept hk (fun g hg e => by subst e; exact Mb.ol_ne h.o2 h.row (by decide) hg)
  · rw [e3]; exact h.o3.kept hk (fun g hg e => by subst e; exact Mb.ol_ne h.o3 h.row (by decide) hg)
/-- Another list in the first's place. -/
theorem Mb.put1 {s : Option Addr} {c n : Nat} {xs : List Int} (h : Mb W w p m a) (h1 : Sg.OL 3 1 W.heap.size w s c n (xs.flatMap mC1)) (hn : n = xs.length) : Mb W (w.setCell ⟨p, 8, none⟩ (.slice s n c)) p { m with masters := xs } { a with s1 := s, c1 := c } := by
  subst hn
  have hk : Kept (fun j => j = p) w (w.setCell ⟨p, 8, none⟩ (.slice s xs.length c)) := Kept.set _ _ _ rfl
  refine ⟨h.bel.setCell h.bp _, h.bp, ?_, h1.kept hk (fun g hg e => by subst e; exact Mb.ol_ne h1 h.row (by decide) hg), h.o2.kept hk (fun g hg e => by subst e; exact Mb.ol_ne h.o2 h.row (by decide) hg), h.o3.kept hk (fun g hg e => by subst e; exact Mb.ol_ne h.o3 h.row (by decide) hg)⟩
  have e : (mCs m a).setIfInBounds 8 (.slice s xs.length c) = mCs { m with masters := xs } { a with s1 := s, c1 := c } := by unfold mCs; simp
  rw [← e]
  exact h.row.set 8 _
theorem Mb.put2 {s : Option Addr} {c n : Nat} {xs : List Mx.Msg} (h : Mb W w p m a) (h1 : Sg.OL 60 3 W.heap.size w s c n (xs.flatMap mC2)) (hn : n = xs.length) : Mb W (w.setCell ⟨p, 9, none⟩ (.slice s n c)) p { m with messages := xs } { a with s2 := s, c2 := c } := by
  subst hn
  have hk : Kept (fun j => j = p) w (w.setCell ⟨p, 9, none⟩ (.slice s xs.length c)) := Kept.set _ _ _ rfl
  refine ⟨h.bel.setCell h.bp _, h.bp, ?_, h.o1.kept hk (fun g hg e => by subst e; exact Mb.ol_ne h.o1 h.row (by decide) hg), h1.kept hk (fun g hg e => by subst e; exact Mb.ol_ne h1 h.row (by decide) hg), h.o3.kept hk (fun g hg e => by subst e; exact Mb.ol_ne h.o3 h.row (by decide) hg)⟩
  have e : (mCs m a).setIfInBounds 9 (.slice s xs.length c) = mCs { m with messages := xs } { a with s2 := s, c2 := c } := by unfold mCs; simp
  rw [← e]
  exact h.row.set 9 _
theorem Mb.put3 {s : Option Addr} {c n : Nat} {xs : List Mx.Win} (h : Mb W w p m a) (h1 : Sg.OL 58 6 W.heap.size w s c n (xs.flatMap mC3)) (hn : n = xs.length) : Mb W (w.setCell ⟨p, 10, none⟩ (.slice s n c)) p { m with windows := xs } { a with s3 := s, c3 := c } := by
  subst hn
  have hk : Kept (fun j => j = p) w (w.setCell ⟨p, 10, none⟩ (.slice s xs.length c)) := Kept.set _ _ _ rfl
  refine ⟨h.bel.setCell h.bp _, h.bp, ?_, h.o1.kept hk (fun g hg e => by subst e; exact Mb.ol_ne h.o1 h.row (by decide) hg), h.o2.kept hk (fun g hg e => by subst e; exact Mb.ol_ne h.o2 h.row (by decide) hg), h1.kept hk (fun g hg e => by subst e; exact Mb.ol_ne h1 h.row (by decide) hg)⟩
  have e : (mCs m a).setIfInBounds 10 (.slice s xs.length c) = mCs { m with windows := xs } { a with s3 := s, c3 := c } := by unfold mCs; simp
  rw [← e]
  exact h.row.set 10 _
/-- A cell of the third list set; the second; the first. -/
theorem Mb.set3 {g o : Nat} {xs : List Mx.Win} (h : Mb W w p m a) (hs : a.s3 = some ⟨g, o, none⟩) (k : Nat) (v : Value) (hk : k < (m.windows.flatMap mC3).length) (hC : (m.windows.flatMap mC3).set k v = xs.flatMap mC3) (hn : xs.length = m.windows.length) : Mb W (w.setCell ⟨g, o + k, none⟩ v) p { m with windows := xs } a := by
  have h3 := h.o3
  rw [hs] at h3
  have hc0 : 0 < a.c3 := by
    have h1 := h3.sl.1
    have h2 := h3.sl.2.2.1
    apply Classical.byContradiction
    intro h0
    have : m.windows.length = 0 := by omega
    rw [this] at h2
    omega
  have hk2 : Kept (Sg.At_ a.s3 a.c3) w (w.setCell ⟨g, o + k, none⟩ v) := Kept.set _ _ _ ⟨hc0, by rw [hs]; rfl⟩
  have hB : W.heap.size ≤ g := by
    obtain ⟨g', o', cur, e1, hB, _⟩ := h3.ty hc0
    injection e1 with e1
    injection e1 with e1 _
    rw [e1]; exact hB
  refine ⟨h.bel.setCell hB _, h.bp, ?_, h.o1.kept hk2 (Mb.ol_ne2 h.o1 h.o3 (by decide)), h.o2.kept hk2 (Mb.ol_ne2 h.o2 h.o3 (by decide)), ?_⟩
  · have e : mCs { m with windows := xs } a = mCs m a := by unfold mCs; rw [hn]
    rw [e]
    exact h.o3.row hk2 h.row (by decide)
  · have := Mb.ol_set h3 k v hk
    rw [hC] at this
    show Sg.OL _ _ _ _ a.s3 _ xs.length _
    rw [hs, hn]
    exact this
theorem Mb.set2 {g o : Nat} {xs : List Mx.Msg} (h : Mb W w p m a) (hs : a.s2 = some ⟨g, o, none⟩) (k : Nat) (v : Value) (hk : k < (m.messages.flatMap mC2).length) (hC : (m.messages.flatMap mC2).set k v = xs.flatMap mC2) (hn : xs.length = m.messages.length) : Mb W (w.setCell ⟨g, o + k, none⟩ v) p { m with messages := xs } a := by
  have h3 := h.o2
  rw [hs] at h3
  have hc0 : 0 < a.c2 := by
    have h1 := h3.sl.1
    have h2 := h3.sl.2.2.1
    apply Classical.byContradiction
    intro h0
    have : m.messages.length = 0 := by omega
    rw [this] at h2
    omega
  have hk2 : Kept (Sg.At_ a.s2 a.c2) w (w.setCell ⟨g, o + k, none⟩ v) := Kept.set _ _ _ ⟨hc0, by rw [hs]; rfl⟩
  have hB : W.heap.size ≤ g := by
    obtain ⟨g', o', cur, e1, hB, _⟩ := h3.ty hc0
    injection e1 with e1
    injection e1 with e1 _
    rw [e1]; exact hB
  refine ⟨h.bel.setCell hB _, h.bp, ?_, h.o1.kept hk2 (Mb.ol_ne2 h.o1 h.o2 (by decide)), ?_, h.o3.kept hk2 (Mb.ol_ne2 h.o3 h.o2 (by decide))⟩
  · have e : mCs { m with messages := xs } a = mCs m a := by unfold mCs; rw [hn]
    rw [e]
    exact h.o2.row hk2 h.row (by decide)
  · have := Mb.ol_set h3 k v hk
    rw [hC] at this
    show Sg.OL _ _ _ _ a.s2 _ xs.length _
    rw [hs, hn]
    exact this
theorem Mb.set1 {g o : Nat} {xs : List Int} (h : Mb W w p m a) (hs : a.s1 = some ⟨g, o, none⟩) (k : Nat) (v : Value) (hk : k < (m.masters.flatMap mC1).length) (hC : (m.masters.flatMap mC1).set k v = xs.flatMap mC1) (hn : xs.length = m.masters.length) : Mb W (w.setCell ⟨g, o + k, none⟩ v) p { m with masters := xs } a := by
  have h3 := h.o1
  rw [hs] at h3
  have hc0 : 0 < a.c1 := by
    have h1 := h3.sl.1
    have h2 := h3.sl.2.2.1
    apply Classical.byContradiction
    intro h0
    have : m.masters.length = 0 := by omega
    rw [this] at h2
    omega
  have hk2 : Kept (Sg.At_ a.s1 a.c1) w (w.setCell ⟨g, o + k, none⟩ v) := Kept.set _ _ _ ⟨hc0, by rw [hs]; rfl⟩
  have hB : W.heap.size ≤ g := by
    obtain ⟨g', o', cur, e1, hB, _⟩ := h3.ty hc0
    injection e1 with e1
    injection e1 with e1 _
    rw [e1]; exact hB
  refine ⟨h.bel.setCell hB _, h.bp, ?_, ?_, h.o2.kept hk2 (Mb.ol_ne2 h.o2 h.o1 (by decide)), h.o3.kept hk2 (Mb.ol_ne2 h.o3 h.o1 (by decide))⟩
  · have e : mCs { m with masters := xs } a = mCs m a := by unfold mCs; rw [hn]
    rw [e]
    exact h.o1.row hk2 h.row (by decide)
  · have := Mb.ol_set h3 k v hk
    rw [hC] at this
    show Sg.OL _ _ _ _ a.s1 _ xs.length _
    rw [hs, hn]
    exact this
end
end Go.Proofs.YtnbfnipdiffphaaDoor
