/- Layer 18: the document's objects: where they lie; New. -/
import Derived.Test.YtkgeknkppnadfaaA18
import Derived.Test.YtkgeknkppnadfaaVh
import Derived.Test.YtkgeknkppnadfaaHp
import Derived.Laws.MakeOwn
import Derived.ProofKit
import Derived.OpenShut
namespace Go.Proofs.Ytkgeknkppnadfaa
open Go.RowKit Go.WideShapes Go.ChangeShapes Go.ChangeAt
set_option linter.unusedVariables false
def oS (l : Q18.Da) : Array Value := (l.map fun o => Value.string (o.getD ByteArray.empty)).toArray
def oB (l : Q18.Da) : Array Value := (l.map fun o => Value.bool o.isSome).toArray
theorem oS_at {l : Q18.Da} {k : Nat} {o : Option ByteArray} (h : l[k]? = some o) : (oS l)[k]? = some (.string (o.getD ByteArray.empty)) := by
  unfold oS
  rw [List.getElem?_toArray, List.getElem?_map, h]
  rfl
theorem oB_at {l : Q18.Da} {k : Nat} {o : Option ByteArray} (h : l[k]? = some o) : (oB l)[k]? = some (.bool o.isSome) := by
  unfold oB
  rw [List.getElem?_toArray, List.getElem?_map, h]
  rfl
theorem oS_set (l : Q18.Da) (k : Nat) (d : ByteArray) : (oS l).setIfInBounds k (.string d) = oS (l.set k (some d)) := by
  unfold oS
  rw [List.setIfInBounds_toArray, List.map_set]
  rfl
theorem oB_set (l : Q18.Da) (k : Nat) (d : ByteArray) : (oB l).setIfInBounds k (.bool true) = oB (l.set k (some d)) := by
  unfold oB
  rw [List.setIfInBounds_toArray, List.map_set]
  rfl
/-- Where the parts of the document's objects lie. -/
structure Ro (w : World) (p : Nat) (s : Q18.St) (m : Mx.M) (a : Ma) (n g1 g2 g3 g4 r : Nat) : Prop where
  row : RowT 54 w p #[.int .i64 m.level, .int .i64 m.nodes, .int .i64 m.cycles, .int .i64 m.length, .int .i64 m.enable, .int .i64 m.unit, .int .i64 m.init, .int .u32 (m.ref : Int), .slice a.s1 m.masters.length a.c1, .slice a.s2 m.messages.length a.c2, .slice a.s3 m.windows.length a.c3, .int .i64 s.who, .slice (some ⟨g1, 0, none⟩) n n, .slice (some ⟨g2, 0, none⟩) n n, .slice (some ⟨g3, 0, none⟩) n n, .slice (some ⟨g4, 0, none⟩) n n, Ob.ptr r]
  o1 : RowT 9 w g1 (oS s.own)
  o2 : RowT 4 w g2 (oB s.own)
  o3 : RowT 9 w g3 (oS s.came)
  o4 : RowT 4 w g4 (oB s.came)
  d13 : g1 ≠ g3
  d24 : g2 ≠ g4
structure Rx (V w : World) (p : Nat) (F : Nat → Prop) (s : Q18.St) (m : Mx.M) (a : Ma) (n g1 g2 g3 g4 r : Nat) (H : Nat → Prop) : Prop where
  f : ∀ g, F g ↔ g = p ∨ g = g1 ∨ g = g2 ∨ g = g3 ∨ g = g4 ∨ H g
  ro : Ro w p s m a n g1 g2 g3 g4 r
  q : RqAt w r H s.q
  apart : ∀ g, H g → g ≠ p ∧ g ≠ g1 ∧ g ≠ g2 ∧ g ≠ g3 ∧ g ≠ g4
  ok : Q18.Ok s
  n : n = s.l.length
  msgs : m.messages = s.l
  mem : MIn V m a
def RoAt (V : World) : Ob.A Q18.St := fun w p F s => ∃ m a n g1 g2 g3 g4 r H, Rx V w p F s m a n g1 g2 g3 g4 r H
theorem Ro.same {w w' : World} {p : Nat} {s : Q18.St} {m : Mx.M} {a : Ma} {n g1 g2 g3 g4 r : Nat} (h : Ro w p s m a n g1 g2 g3 g4 r) (hk : ∀ g, g = p ∨ g = g1 ∨ g = g2 ∨ g = g3 ∨ g = g4 → w'.heap[g]? = w.heap[g]?) : Ro w' p s m a n g1 g2 g3 g4 r :=
  ⟨(hk _ (by simp)).trans h.row, (hk _ (by simp)).trans h.o1, (hk _ (by simp)).trans h.o2, (hk _ (by simp)).trans h.o3, (hk _ (by simp)).trans h.o4, h.d13, h.d24⟩
theorem Rx.on {V w w' : World} {p : Nat} {F : Nat → Prop} {s : Q18.St} {m : Mx.M} {a : Ma} {n g1 g2 g3 g4 r : Nat} {H : Nat → Prop} (h : Rx V w p F s m a n g1 g2 g3 g4 r H) (hk : ∀ g, F g → w'.heap[g]? = w.heap[g]?) : Rx V w' p F s m a n g1 g2 g3 g4 r H :=
  ⟨h.f, h.ro.same (fun g hg => hk g ((h.f g).2 (by rcases hg with h | h | h | h | h <;> simp [h]))), rq_is.on h.q (fun g hg => hk g ((h.f g).2 (by simp [hg]))), h.apart, h.ok, h.n, h.msgs, h.mem⟩
theorem Rx.lt {V w : World} {p : Nat} {F : Nat → Prop} {s : Q18.St} {m : Mx.M} {a : Ma} {n g1 g2 g3 g4 r : Nat} {H : Nat → Prop} (h : Rx V w p F s m a n g1 g2 g3 g4 r H) (g : Nat) (hg : F g) : g < w.heap.size := by
  rcases (h.f g).1 hg with rfl | rfl | rfl | rfl | rfl | hg
  · exact h.ro.row.lt
  · exact h.ro.o1.lt
  · exact h.ro.o2.lt
  · exact h.ro.o3.lt
  · exact h.ro.o4.lt
  · exact rq_is.lt h.q g hg
theorem roIs (V : World) : Ob.Is (RoAt V) where
  on := fun {w w' p F s} ⟨m, a, n, g1, g2, g3, g4, r, H, h⟩ hk => ⟨m, a, n, g1, g2, g3, g4, r, H, h.on hk⟩
  lt := fun {w p F s} ⟨m, a, n, g1, g2, g3, g4, r, H, h⟩ g hg => h.lt g hg
theorem rq_apart {w : World} {r : Nat} {H : Nat → Prop} {t : Vq.St} (h : RqAt w r H t) {T : TypeId} {p : Nat} {cs : Array Value} (hr : RowT T w p cs) (h1 : T ≠ 49) (h2 : T ≠ 43) : ∀ g, H g → g ≠ p := fun g hg => by
  obtain ⟨b, c, hF, hq, _⟩ := h
  rcases (hF g).1 hg with rfl | hg
  · exact fun e => row_ne17 hr hq.row h1 e.symm
  · exact fun e => by subst e; exact ol_ne17 hq.ol hr h2 hg
theorem made_one (z : Value) (n : Nat) : madeCells #[z] n = (List.replicate n z).toArray := by
  apply Array.ext'
  apply List.ext_getElem?
  intro j
  by_cases hj : j < n
  · have h2 : j % 1 = 0 := by omega
    simp [madeCells, hj, h2]
  · rw [List.getElem?_eq_none (by simp [size_madeCells]; omega), List.getElem?_eq_none (by simp; omega)]
theorem infoStr18 : (Try.prog.info? 9).map (fun i => (i.zero, i.size, i.bytes)) = some (some (.string ByteArray.empty), 1, 16) := by kernel_rfl
theorem infoBool18 : (Try.prog.info? 4).map (fun i => (i.zero, i.size, i.bytes)) = some (some (.bool false), 1, 1) := by kernel_rfl
theorem make_str (x : Int) (n : Nat) (hx : x = (n : Int)) (hn : n ≤ 1000) (W : World) : (Instr.makeSlice 50 (.int .i64 x) (.int .i64 x)).run Try.prog W = .ok (.slice (some ⟨W.heap.size, 0, none⟩) n n) (W.alloc (.cells (oS (List.replicate n none)) 9)) := by
  obtain ⟨i0, hi, hz0, hz1, hz2⟩ := info_parts infoStr18
  subst hx
  have h := run_make (P := Try.prog) W 50 9 i0 (.string ByteArray.empty) Try.underlying50 hi hz0 .i64 .i64 (n : Int) (n : Int) (by omega) (Int.le_refl _) (by rw [hz2]; omega) (by omega)
  rw [h]
  simp only [Int.toNat_natCast, hz1, Nat.mul_one]
  have e : madeCells (Value.string ByteArray.empty).cells n = oS (List.replicate n none) := by unfold oS; rw [List.map_replicate]; exact made_one _ n
  rw [e]
theorem make_bool (x : Int) (n : Nat) (hx : x = (n : Int)) (hn : n ≤ 1000) (W : World) : (Instr.makeSlice 51 (.int .i64 x) (.int .i64 x)).run Try.prog W = .ok (.slice (some ⟨W.heap.size, 0, none⟩) n n) (W.alloc (.cells (oB (List.replicate n none)) 4)) := by
  obtain ⟨i0, hi, hz0, hz1, hz2⟩ := info_parts infoBool18
  subst hx
  have h := run_make (P := Try.prog) W 51 4 i0 (.bool false) Try.underlying51 hi hz0 .i64 .i64 (n : Int) (n : Int) (by omega) (Int.le_refl _) (by rw [hz2]; omega) (by omega)
  rw [h]
  simp only [Int.toNat_natCast, hz1, Nat.mul_one]
  have e : madeCells (Value.bool false).cells n = oB (List.replicate n none) := by unfold oB; rw [List.map_replicate]; exact made_one _ n
  rw [e]
end Go.Proofs.Ytkgeknkppnadfaa
