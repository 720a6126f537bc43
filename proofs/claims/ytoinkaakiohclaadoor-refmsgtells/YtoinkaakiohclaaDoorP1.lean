/- Layer 13: bytes in the making; the document's two. -/
import Derived.Test.YtoinkaakiohclaaDoorPq
import Derived.Test.YtoinkaakiohclaaDoorSg
import Derived.Test.YtoinkaakiohclaaDoorU2
import Derived.WalkArith
import Derived.WalkSpells
namespace Go.Proofs.YtoinkaakiohclaaDoor
open Go.RowKit Go.WideShapes
set_option linter.unusedVariables false
theorem elU8 : Sg.El Tryd.prog 51 5 1 (.int .u8 0) 1 := ⟨Tryd.underlying51, by kernel_rfl, rfl, by decide⟩
/-- Bytes in the making, in a block not older than so many. -/
abbrev By (B : Nat) (w : World) (s : Option Addr) (c n : Nat) (l : List UInt8) : Prop := Sg.OL 5 1 B w s c n (Bm.cellsOf l)
theorem cellsOf_append (l r : List UInt8) : Bm.cellsOf (l ++ r) = Bm.cellsOf l ++ Bm.cellsOf r := by simp [Bm.cellsOf]
theorem By.len {B : Nat} {w : World} {s : Option Addr} {c n : Nat} {l : List UInt8} (h : By B w s c n l) : n = l.length := by
  have := h.sl.2.2.1
  rw [Bm.length_cellsOf] at this
  omega
theorem By.app {B : Nat} {w : World} {s : Option Addr} {c n : Nat} {l r : List UInt8} (h : Sg.OL 5 1 B w s c n (Bm.cellsOf l ++ Bm.cellsOf r)) : By B w s c n (l ++ r) := by
  unfold By
  rw [cellsOf_append]
  exact h
/-- string(b). -/
theorem By.conv {B : Nat} {w : World} {s : Option Addr} {c n : Nat} {l : List UInt8} (h : By B w s c n l) : (convert 51 9 (.slice s n c)).run Tryd.prog w = .ok (.string ⟨l.toArray⟩) w := by
  have hn := h.len
  subst hn
  rcases h.sl.2.2.2 with h0 | ⟨g, o, rfl, hg, hc, hr⟩
  · obtain rfl : l = [] := List.eq_nil_of_length_eq_zero (by have := h.sl.1; omega)
    cases s with
    | none => exact run_convert_bytes_nil (P := Tryd.prog) w 51 5 Tryd.underlying51 Tryd.underlying5 0 c 9 Tryd.underlying9
    | some a => exact run_convert_bytes_back (P := Tryd.prog) w 51 9 5 a c [] Tryd.underlying51 Tryd.underlying5 Tryd.underlying9 (fun i hi => by simp at hi)
  · exact run_convert_bytes_back (P := Tryd.prog) w 51 9 5 ⟨g, o, none⟩ c l Tryd.underlying51 Tryd.underlying5 Tryd.underlying9 (fun i hi => by
      rw [Sg.add_at]
      exact hc i _ (by simp [Bm.cellsOf, hi]))
/-- Bytes laid behind, told as a call tells it. -/
def Lays (B : Nat) (w : World) (s : Option Addr) (c : Nat) (l r : List UInt8) (e : Ending) (w' : World) : Prop :=
  ∃ s' c' n', e = .returned (.slice s' n' c') ∧ By B w' s' c' n' (l ++ r) ∧ Kept (Sg.At_ s c) w w'
theorem By.new (B : Nat) (w : World) (l : List UInt8) (n : Nat) (hn : n = l.length) (hB : B ≤ w.heap.size) (hl : n ≤ 1000) : By B (w.alloc (.cells (Bm.cellsOf l).toArray 5)) (some ⟨w.heap.size, 0, none⟩) n n l := by
  subst hn
  have hh := heap_alloc_new w (.cells (Bm.cellsOf l).toArray 5)
  refine ⟨⟨Nat.le_refl _, by simp only [maxLen]; omega, by rw [Bm.length_cellsOf, Nat.mul_one], Or.inr ⟨w.heap.size, 0, rfl, by simp, fun k v hk => ?_, fun j hj => ⟨?_, frozen_of_row _ _ _ _ _ hh⟩⟩⟩, fun _ => ⟨w.heap.size, 0, _, rfl, hB, hh⟩⟩
  · rw [Nat.zero_add]
    refine (cell_of_row _ _ _ _ _ _ hh).trans ?_
    simpa using hk
  · rw [Nat.zero_add]
    refine Option.isSome_iff_exists.2 ⟨_, (cell_of_row _ _ _ _ _ _ hh).trans (Array.getElem?_eq_getElem ?_)⟩
    rw [List.size_toArray, Bm.length_cellsOf]
    omega
/-- A matrix in a block, bytes in the making beside it. -/
structure Mk (W w : World) (m : Mx.M) (a : Ma) (s : Option Addr) (c n : Nat) (l : List UInt8) : Prop where
  orig : MIn W m a
  bel : Below W.heap.size W w
  row : RowT 27 w W.heap.size (mCs m a)
  by_ : By W.heap.size w s c n l
theorem Mk.mem {W w : World} {m : Mx.M} {a : Ma} {s : Option Addr} {c n : Nat} {l : List UInt8} (h : Mk W w m a s c n l) : MIn w m a := h.orig.on h.bel
theorem Mk.on {W w w' : World} {m : Mx.M} {a : Ma} {s : Option Addr} {c n : Nat} {l : List UInt8} (h : Mk W w m a s c n l) (hb : Below w.heap.size w w') : Mk W w' m a s c n l := ⟨h.orig, h.bel.trans (hb.mono h.bel.size), h.row.on hb, h.by_.on hb⟩
theorem Mk.al {W w : World} {m : Mx.M} {a : Ma} {s : Option Addr} {c n : Nat} {l : List UInt8} (h : Mk W w m a s c n l) (o : Obj) : Mk W (w.alloc o) m a s c n l := h.on ((Below.refl _ _).alloc (Nat.le_refl _) _)
theorem Mk.set {W w w' : World} {m : Mx.M} {a : Ma} {s s' : Option Addr} {c c' n n' : Nat} {l l' : List UInt8} (h : Mk W w m a s c n l) (hk : Kept (Sg.At_ s c) w w') (hb : By W.heap.size w' s' c' n' l') : Mk W w' m a s' c' n' l' :=
  ⟨h.orig, h.bel.trans (h.by_.below hk h.bel.size), h.by_.row hk h.row (by decide), hb⟩
theorem Mk.app {W w w' : World} {m : Mx.M} {a : Ma} {s s' : Option Addr} {c c' n n' : Nat} {l r : List UInt8} (h : Mk W w m a s c n l) (h1 : Sg.OL 5 1 W.heap.size w' s' c' n' (Bm.cellsOf l ++ Bm.cellsOf r)) (hk : Kept (Sg.At_ s c) w w') : Mk W w' m a s' c' n' (l ++ r) := h.set hk (By.app h1)
/-- Bytes alone count: how many there are is known of them. -/
theorem Mk.le {W w : World} {m : Mx.M} {a : Ma} {s : Option Addr} {c n : Nat} {l : List UInt8} (h : Mk W w m a s c n l) (k : Nat) (hl : l.length ≤ k) : n ≤ k := by rw [h.by_.len]; exact hl
/-- A window's copy besides. -/
structure MkW (W w : World) (m : Mx.M) (a : Ma) (p : Nat) (x : Mx.Win) (s : Option Addr) (c n : Nat) (l : List UInt8) : Prop where
  m0 : Mk W w m a s c n l
  win : RowT 65 w p (mC3 x).toArray
theorem MkW.by_ {W w : World} {m : Mx.M} {a : Ma} {p : Nat} {x : Mx.Win} {s : Option Addr} {c n : Nat} {l : List UInt8} (h : MkW W w m a p x s c n l) : By W.heap.size w s c n l := h.m0.by_
theorem MkW.bel {W w : World} {m : Mx.M} {a : Ma} {p : Nat} {x : Mx.Win} {s : Option Addr} {c n : Nat} {l : List UInt8} (h : MkW W w m a p x s c n l) : Below W.heap.size W w := h.m0.bel
theorem MkW.on {W w w' : World} {m : Mx.M} {a : Ma} {p : Nat} {x : Mx.Win} {s : Option Addr} {c n : Nat} {l : List UInt8} (h : MkW W w m a p x s c n l) (hb : Below w.heap.size w w') : MkW W w' m a p x s c n l := ⟨h.m0.on hb, h.win.on hb⟩
theorem MkW.al {W w : World} {m : Mx.M} {a : Ma} {p : Nat} {x : Mx.Win} {s : Option Addr} {c n : Nat} {l : List UInt8} (h : MkW W w m a p x s c n l) (o : Obj) : MkW W (w.alloc o) m a p x s c n l := h.on ((Below.refl _ _).alloc (Nat.le_refl _) _)
theorem MkW.set {W w w' : World} {m : Mx.M} {a : Ma} {p : Nat} {x : Mx.Win} {s s' : Option Addr} {c c' n n' : Nat} {l l' : List UInt8} (h : MkW W w m a p x s c n l) (hk : Kept (Sg.At_ s c) w w') (hb : By W.heap.size w' s' c' n' l') : MkW W w' m a p x s' c' n' l' := ⟨h.m0.set hk hb, h.m0.by_.row hk h.win (by decide)⟩
theorem MkW.app {W w w' : World} {m : Mx.M} {a : Ma} {p : Nat} {x : Mx.Win} {s s' : Option Addr} {c c' n n' : Nat} {l r : List UInt8} (h : MkW W w m a p x s c n l) (h1 : Sg.OL 5 1 W.heap.size w' s' c' n' (Bm.cellsOf l ++ Bm.cellsOf r)) (hk : Kept (Sg.At_ s c) w w') : MkW W w' m a p x s' c' n' (l ++ r) := h.set hk (By.app h1)
theorem MkW.le {W w : World} {m : Mx.M} {a : Ma} {p : Nat} {x : Mx.Win} {s : Option Addr} {c n : Nat} {l : List UInt8} (h : MkW W w m a p x s c n l) (k : Nat) (hl : l.length ≤ k) : n ≤ k := h.m0.le k hl
end Go.Proofs.YtoinkaakiohclaaDoor
