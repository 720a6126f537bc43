/- Package matrix, over the landed code: all that is said of it. -/
import Derived.Test.YthknkolnalobjaaDoorB0
import Derived.Test.YthknkolnalobjaaDoorBh
import Derived.Test.YthknkolnalobjaaDoorBi
namespace Go.Proofs.YthknkolnalobjaaDoor
open Go.RowKit
set_option linter.unusedVariables false
theorem Bk.room {e : TypeId} {B : Nat} {w : World} {s : Option Addr} {c n : Nat} {C : List Value} (h : Sg.OL e 1 B w s c n C) (h0 : 0 < c) : ∃ g o cur, s = some ⟨g, o, none⟩ ∧ B ≤ g ∧ w.heap[g]? = some (.cells cur e (0, 0)) ∧ o + c ≤ cur.size := by
  obtain ⟨g, o, cur, e1, hB, hh⟩ := h.ty h0
  refine ⟨g, o, cur, e1, hB, hh, ?_⟩
  rcases h.sl.2.2.2 with h1 | ⟨g', o', e2, _, _, hr⟩
  · omega
  · rw [e1] at e2
    injection e2 with e2
    injection e2 with e3 e4
    subst e3 e4
    have h2 := (hr (c - 1) (by omega)).1
    rw [cell_of_row _ _ _ _ _ _ hh] at h2
    obtain ⟨v, hv⟩ := Option.isSome_iff_exists.1 h2
    have := (Array.getElem?_eq_some_iff.1 hv).1
    omega
theorem Bk.Own3.fresh {B : Nat} {w : World} {m : Mx.M} {a : Ma} (h : Bk.Own3 B w m a) : Fresh B w m a :=
  ⟨fun k => h.o1.ty (Nat.lt_of_lt_of_le k h.o1.sl.1), fun k => h.o2.ty (Nat.lt_of_lt_of_le k h.o2.sl.1), fun k => h.o3.ty (Nat.lt_of_lt_of_le k h.o3.sl.1), fun k => Bk.room h.o1 (by omega)⟩
theorem Bk.Own3.mem {B : Nat} {w : World} {m : Mx.M} {a : Ma} (h : Bk.Own3 B w m a) : MIn w m a := ⟨h.o1.sl.li, h.o2.sl.li, h.o3.sl.li⟩
theorem matSpec : MatSpec Tab where
  is := fun w m a hT hm hS _ => mk_is w hT m a hm hS
  same := fun w m n a b _ hm hn h1 h2 _ _ => mk_same w m n a b hm hn h1 h2
  find := fun w m a ext rtr id d _ hm hS _ _ => mk_find w m a ext rtr id d hm hS
  frame := fun w m a msg d _ hm hS _ _ _ => mk_frame w m a msg d hm hS
  rank := fun w m a who _ hm hS _ _ => mk_rank w m a who hm hS
  comes := fun w cy rp now _ h1 _ h3 => (mk_comes w cy rp now h1 h3).mono fun e w' h => ⟨h.1, by rw [h.2]; exact Below.refl _ _⟩
  copy := fun w m a _ hm hS _ => (mk_copy w m a hm hS).mono fun e w' ⟨a', he, hO, hb⟩ => ⟨a', he, hO.mem, hO.fresh, hb⟩
end Go.Proofs.YthknkolnalobjaaDoor
