/- A matrix as a value: where its lists lie. -/
import Derived.Test.YtnbfnipdiffphaaDoorMx
import Derived.Test.YtnbfnipdiffphaaDoorRg
namespace Go.Proofs.YtnbfnipdiffphaaDoor
open Go.RowKit
set_option linter.unusedVariables false
/-- A list of so many cells a thing, that can be read; where it begins is left open. -/
def LI (w : World) (s : Option Addr) (cap n : Nat) (C : List Value) : Prop :=
  n ≤ cap ∧ cap ≤ maxLen ∧ (n = 0 ∨ ∃ g o, s = some ⟨g, o, none⟩ ∧ g < w.heap.size ∧ ∀ k v, C[k]? = some v → w.cell? ⟨g, o + k, none⟩ = some v)
theorem LI.on {w w' : World} {s : Option Addr} {cap n : Nat} {C : List Value} (h : LI w s cap n C) (hb : Below w.heap.size w w') : LI w' s cap n C := by
  refine ⟨h.1, h.2.1, ?_⟩
  rcases h.2.2 with h0 | ⟨g, o, hs, hg, hc⟩
  · exact Or.inl h0
  · exact Or.inr ⟨g, o, hs, Nat.lt_of_lt_of_le hg hb.size, fun k v hk => (hb.cell (p := ⟨g, o + k, none⟩) hg).trans (hc k v hk)⟩
/-- The thing at a place. -/
theorem LI.at {α : Type} {w : World} {s : Option Addr} {cap : Nat} {l : List α} {f : α → List Value} {sz : Nat} (h : LI w s cap l.length (l.flatMap f)) (hf : ∀ x, (f x).length = sz) (i : Nat) (x : α) (hx : l[i]? = some x) :
    ∃ g o, s = some ⟨g, o, none⟩ ∧ g < w.heap.size ∧ ∀ j u, (f x)[j]? = some u → w.cell? ⟨g, o + (i * sz + j), none⟩ = some u := by
  rcases h.2.2 with h0 | ⟨g, o, hs, hg, hc⟩
  · have := (List.getElem?_eq_some_iff.1 hx).1; omega
  · refine ⟨g, o, hs, hg, fun j u hu => hc _ u ?_⟩
    have hj : j < sz := by rw [← hf x]; exact (List.getElem?_eq_some_iff.1 hu).1
    clear hc h hs hg
    induction l generalizing i with
    | nil => cases hx
    | cons a l ih =>
      rw [List.flatMap_cons]
      cases i with
      | zero =>
        have h' : a = x := by simpa using hx
        subst h'
        rw [List.getElem?_append_left (by rw [hf]; omega), Nat.zero_mul, Nat.zero_add]
        exact hu
      | succ i =>
        have e : (i + 1) * sz + j - (f a).length = i * sz + j := by rw [hf, Nat.succ_mul]; omega
        rw [List.getElem?_append_right (by rw [hf, Nat.succ_mul]; omega), e]
        exact ih i (by simpa using hx)
/-- Where a matrix' lists lie. -/
structure Ma where
  s1 : Option Addr
  c1 : Nat
  s2 : Option Addr
  c2 : Nat
  s3 : Option Addr
  c3 : Nat
def mC1 (x : Int) : List Value := [.int .i64 x]
def mC2 (x : Mx.Msg) : List Value := [.int .u32 (x.id : Int), .int .i64 x.owner, .bool x.event]
def mC3 (x : Mx.Win) : List Value := [.int .i64 x.kind, .int .i64 x.start, .int .i64 x.fin, .int .i64 x.cycle, .int .i64 x.rep, .int .i64 x.msg]
def mCs (m : Mx.M) (a : Ma) : Array Value := #[.int .i64 m.level, .int .i64 m.nodes, .int .i64 m.cycles, .int .i64 m.length, .int .i64 m.enable, .int .i64 m.unit, .int .i64 m.init, .int .u32 (m.ref : Int), .slice a.s1 m.masters.length a.c1, .slice a.s2 m.messages.length a.c2, .slice a.s3 m.windows.length a.c3]
abbrev mV (m : Mx.M) (a : Ma) : Value := .agg (mCs m a)
structure MIn (w : World) (m : Mx.M) (a : Ma) : Prop where
  l1 : LI w a.s1 a.c1 m.masters.length (m.masters.flatMap mC1)
  l2 : LI w a.s2 a.c2 m.messages.length (m.messages.flatMap mC2)
  l3 : LI w a.s3 a.c3 m.windows.length (m.windows.flatMap mC3)
theorem MIn.on {w w' : World} {m : Mx.M} {a : Ma} (h : MIn w m a) (hb : Below w.heap.size w w') : MIn w' m a := ⟨h.l1.on hb, h.l2.on hb, h.l3.on hb⟩
theorem MIn.master {w : World} {m : Mx.M} {a : Ma} (h : MIn w m a) {i : Nat} {x : Int} (hx : m.masters[i]? = some x) : ∃ g o, a.s1 = some ⟨g, o, none⟩ ∧ g < w.heap.size ∧ w.cell? ⟨g, o + i, none⟩ = some (.int .i64 x) := by
  obtain ⟨g, o, hs, hg, hc⟩ := h.l1.at (sz := 1) (fun _ => rfl) i x hx
  refine ⟨g, o, hs, hg, ?_⟩
  have := hc 0 _ rfl
  rwa [Nat.mul_one, Nat.add_zero] at this
theorem MIn.message {w : World} {m : Mx.M} {a : Ma} (h : MIn w m a) {i : Nat} {x : Mx.Msg} (hx : m.messages[i]? = some x) : ∃ g o, a.s2 = some ⟨g, o, none⟩ ∧ g < w.heap.size ∧ w.cell? ⟨g, o + i * 3, none⟩ = some (.int .u32 (x.id : Int)) ∧ w.cell? ⟨g, o + i * 3 + 1, none⟩ = some (.int .i64 x.owner) ∧ w.cell? ⟨g, o + i * 3 + 2, none⟩ = some (.bool x.event) := by
  obtain ⟨g, o, hs, hg, hc⟩ := h.l2.at (sz := 3) (fun _ => rfl) i x hx
  refine ⟨g, o, hs, hg, ?_, ?_, ?_⟩
  · have := hc 0 _ rfl; rwa [Nat.add_zero] at this
  · have := hc 1 _ rfl; rwa [← Nat.add_assoc] at this
  · have := hc 2 _ rfl; rwa [← Nat.add_assoc] at this
theorem MIn.window {w : World} {m : Mx.M} {a : Ma} (h : MIn w m a) {i : Nat} {x : Mx.Win} (hx : m.windows[i]? = some x) : ∃ g o, a.s3 = some ⟨g, o, none⟩ ∧ g < w.heap.size ∧ w.cell? ⟨g, o + i * 6, none⟩ = some (.int .i64 x.kind) ∧ w.cell? ⟨g, o + i * 6 + 1, none⟩ = some (.int .i64 x.start) ∧ w.cell? ⟨g, o + i * 6 + 2, none⟩ = some (.int .i64 x.fin) ∧ w.cell? ⟨g, o + i * 6 + 3, none⟩ = some (.int .i64 x.cycle) ∧ w.cell? ⟨g, o + i * 6 + 4, none⟩ = some (.int .i64 x.rep) ∧ w.cell? ⟨g, o + i * 6 + 5, none⟩ = some (.int .i64 x.msg) := by
  obtain ⟨g, o, hs, hg, hc⟩ := h.l3.at (sz := 6) (fun _ => rfl) i x hx
  refine ⟨g, o, hs, hg, ?_, ?_, ?_, ?_, ?_, ?_⟩
  · have := hc 0 _ rfl; rwa [Nat.add_zero] at this
  · have := hc 1 _ rfl; rwa [← Nat.add_assoc] at this
  · have := hc 2 _ rfl; rwa [← Nat.add_assoc] at this
  · have := hc 3 _ rfl; rwa [← Nat.add_assoc] at this
  · have := hc 4 _ rfl; rwa [← Nat.add_assoc] at this
  · have := hc 5 _ rfl; rwa [← Nat.add_assoc] at this
def fVal (o : Option Nat) (d : ByteArray) : Value := match o with
  | some id => .tuple #[.agg #[.bool false, .int .u32 (id : Int), .bool false, .string d], .bool true]
  | none => .tuple #[.agg #[.bool false, .int .u32 0, .bool false, .string ByteArray.empty], .bool false]
/-- A matrix' cells where it was copied to. -/
theorem RowT.mat {T : TypeId} {w : World} {p : Nat} {m : Mx.M} {a : Ma} (h : RowT T w p (mCs m a)) :
    w.cell? ⟨p, 0, none⟩ = some (.int .i64 m.level) ∧ w.cell? ⟨p, 1, none⟩ = some (.int .i64 m.nodes) ∧ w.cell? ⟨p, 2, none⟩ = some (.int .i64 m.cycles) ∧ w.cell? ⟨p, 3, none⟩ = some (.int .i64 m.length) ∧ w.cell? ⟨p, 4, none⟩ = some (.int .i64 m.enable) ∧ w.cell? ⟨p, 5, none⟩ = some (.int .i64 m.unit) ∧ w.cell? ⟨p, 6, none⟩ = some (.int .i64 m.init) ∧ w.cell? ⟨p, 7, none⟩ = some (.int .u32 (m.ref : Int)) ∧
      w.cell? ⟨p, 8, none⟩ = some (.slice a.s1 m.masters.length a.c1) ∧ w.cell? ⟨p, 9, none⟩ = some (.slice a.s2 m.messages.length a.c2) ∧ w.cell? ⟨p, 10, none⟩ = some (.slice a.s3 m.windows.length a.c3) :=
  ⟨h.c 0 _ rfl, h.c 1 _ rfl, h.c 2 _ rfl, h.c 3 _ rfl, h.c 4 _ rfl, h.c 5 _ rfl, h.c 6 _ rfl, h.c 7 _ rfl, h.c 8 _ rfl, h.c 9 _ rfl, h.c 10 _ rfl⟩
end Go.Proofs.YtnbfnipdiffphaaDoor
