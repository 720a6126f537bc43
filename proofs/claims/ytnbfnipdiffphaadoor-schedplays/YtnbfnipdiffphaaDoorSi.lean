/- A list's front and back, cut off by slicing: what an append takes of them. Nothing of the program is in it. -/
import Derived.Test.YtnbfnipdiffphaaDoorSg
namespace Go.Proofs.YtnbfnipdiffphaaDoor.Sg
open Go.RowKit
set_option linter.unusedVariables false
/-- Where the front, the back of a list begin. -/
def frontAt (s : Option Addr) (c sz : Nat) : Option Addr := if c = 0 then s else s.map (·.add (0 * sz))
def backAt (s : Option Addr) (c k sz : Nat) : Option Addr := if c = k then s else s.map (·.add (k * sz))
theorem run_front {P : Program} {t e : TypeId} {sz : Nat} (ht : P.underlying t = some (.slice e)) (hz : (P.info? e).map (·.size) = some sz) (s : Option Addr) (n c k : Nat) (hk : k ≤ c) (W : World) :
    (Instr.sliceAt t (.slice s n c) none (some (.int .i64 (k : Int))) none).run P W = .ok (.slice (frontAt s c sz) k c) W := by
  have ee : P.elem t = e := by simp [Program.elem, ht]
  have ht' : P.underlying t = some (.slice (P.elem t)) := by rw [ee]; exact ht
  rw [run_sliceAt_slice (P := P) W t _ _ _ _ ht', run_slice_h (P := P) W t s n c ht' .i64 (k : Int) (by omega) (by omega), ee]
  cases hq : P.info? e with
  | none => simp [hq] at hz
  | some i =>
    have hs : i.size = sz := by simpa [hq] using hz
    simp [sizeOf, typeInfo, hq, hs, sliced, frontAt, Result.andThen]
theorem run_back {P : Program} {t e : TypeId} {sz : Nat} (ht : P.underlying t = some (.slice e)) (hz : (P.info? e).map (·.size) = some sz) (s : Option Addr) (n c k : Nat) (hk : k ≤ n) (W : World) :
    (Instr.sliceAt t (.slice s n c) (some (.int .i64 (k : Int))) none none).run P W = .ok (.slice (backAt s c k sz) (n - k) (c - k)) W := by
  have ee : P.elem t = e := by simp [Program.elem, ht]
  have ht' : P.underlying t = some (.slice (P.elem t)) := by rw [ee]; exact ht
  rw [run_sliceAt_slice (P := P) W t _ _ _ _ ht', run_slice_l (P := P) W t s n c ht' .i64 (k : Int) (by omega) (by omega), ee]
  cases hq : P.info? e with
  | none => simp [hq] at hz
  | some i =>
    have hs : i.size = sz := by simpa [hq] using hz
    simp [sizeOf, typeInfo, hq, hs, sliced, backAt, Result.andThen]
theorem flat_take {α : Type} {f : α → List Value} {sz : Nat} (hf : ∀ x, (f x).length = sz) : ∀ (l : List α) (k : Nat), (l.take k).flatMap f = (l.flatMap f).take (k * sz)
  | [], k => by simp
  | x :: l, 0 => by simp
  | x :: l, k + 1 => by
    rw [List.take_succ_cons, List.flatMap_cons, List.flatMap_cons, flat_take hf l k, List.take_append, hf]
    have e : (k + 1) * sz - sz = k * sz := by rw [Nat.succ_mul]; omega
    have e2 : (f x).take ((k + 1) * sz) = f x := List.take_of_length_le (by rw [hf, Nat.succ_mul]; omega)
    rw [e, e2]
theorem flat_drop {α : Type} {f : α → List Value} {sz : Nat} (hf : ∀ x, (f x).length = sz) : ∀ (l : List α) (k : Nat), (l.drop k).flatMap f = (l.flatMap f).drop (k * sz)
  | [], k => by simp
  | x :: l, 0 => by simp
  | x :: l, k + 1 => by
    rw [List.drop_succ_cons, List.flatMap_cons, flat_drop hf l k, List.drop_append, hf]
    have e : (k + 1) * sz - sz = k * sz := by rw [Nat.succ_mul]; omega
    have e2 : (f x).drop ((k + 1) * sz) = [] := List.drop_eq_nil_of_le (by rw [hf, Nat.succ_mul]; omega)
    rw [e, e2, List.nil_append]
theorem len_flatS {α : Type} {f : α → List Value} {sz : Nat} (hf : ∀ x, (f x).length = sz) (l : List α) : (l.flatMap f).length = l.length * sz := by
  induction l with
  | nil => simp
  | cons x l ih => rw [List.flatMap_cons, List.length_append, hf, ih, List.length_cons, Nat.succ_mul, Nat.add_comm]
theorem src_empty {P : Program} {w : World} {t e : TypeId} (ht : P.underlying t = some (.slice e)) (sz : Nat) (s : Option Addr) (c : Nat) : Src P sz t (.slice s 0 c) 0 [] w := by
  cases s with
  | none => exact Src.ofNil w ht c
  | some a => exact Src.ofSlice w ht a 0 c [] (by simp) (fun j u hu => by simp at hu) (fun u hu => by simp at hu)
theorem src_front {P : Program} {w : World} {t e : TypeId} {α : Type} {f : α → List Value} {sz : Nat} (hf : ∀ x, (f x).length = sz) (ht : P.underlying t = some (.slice e)) {s : Option Addr} {c : Nat} {l : List α} (h : LI w s c l.length (l.flatMap f)) (h1 : ∀ u ∈ l.flatMap f, u.oneCell' = true) {k : Nat} (hk : k ≤ l.length) : Src P sz t (.slice (frontAt s c sz) k c) k ((l.take k).flatMap f) w := by
  by_cases h0 : k = 0
  · subst h0
    simpa using src_empty (P := P) (w := w) ht sz (frontAt s c sz) c
  · rcases h.2.2 with h2 | ⟨g, o, rfl, hg, hc⟩
    · omega
    · have hc0 : c ≠ 0 := by have := h.1; omega
      have e : frontAt (some ⟨g, o, none⟩) c sz = some ⟨g, o, none⟩ := by
        unfold frontAt
        rw [if_neg hc0, Option.map_some, add_at, Nat.zero_mul, Nat.add_zero]
      rw [e, flat_take hf]
      refine Src.ofSlice w ht _ k c _ (by rw [List.length_take, len_flatS hf]; exact Nat.min_eq_left (Nat.mul_le_mul_right sz hk)) (fun j u hu => ?_) (fun u hu => h1 u (List.mem_of_mem_take hu))
      rw [add_at]
      refine hc j u ?_
      rw [List.getElem?_take] at hu
      split at hu
      · exact hu
      · cases hu
theorem src_back {P : Program} {w : World} {t e : TypeId} {α : Type} {f : α → List Value} {sz : Nat} (hf : ∀ x, (f x).length = sz) (ht : P.underlying t = some (.slice e)) {s : Option Addr} {c : Nat} {l : List α} (h : LI w s c l.length (l.flatMap f)) (h1 : ∀ u ∈ l.flatMap f, u.oneCell' = true) {k : Nat} (hk : k ≤ l.length) : Src P sz t (.slice (backAt s c k sz) (l.length - k) (c - k)) (l.length - k) ((l.drop k).flatMap f) w := by
  by_cases h0 : k = l.length
  · subst h0
    rw [Nat.sub_self, List.drop_length]
    exact src_empty ht sz _ _
  · rcases h.2.2 with h2 | ⟨g, o, rfl, hg, hc⟩
    · omega
    · have hck : c ≠ k := by have := h.1; omega
      have e : backAt (some ⟨g, o, none⟩) c k sz = some ⟨g, o + k * sz, none⟩ := by
        unfold backAt
        rw [if_neg hck, Option.map_some, add_at]
      rw [e, flat_drop hf]
      refine Src.ofSlice w ht _ _ _ _ (by rw [List.length_drop, len_flatS hf, Nat.sub_mul]) (fun j u hu => ?_) (fun u hu => h1 u (List.mem_of_mem_drop hu))
      rw [add_at, Nat.add_assoc]
      refine hc _ u ?_
      rw [List.getElem?_drop] at hu
      exact hu
end Go.Proofs.YtnbfnipdiffphaaDoor.Sg
