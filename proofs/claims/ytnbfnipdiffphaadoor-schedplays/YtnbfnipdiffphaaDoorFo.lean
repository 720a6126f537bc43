/- Slices of structs that came in: what stands in their cells; whatever program. -/
import Derived.Test.YtnbfnipdiffphaaDoorRows
import Derived.WalkKit
import Derived.Below
import Derived.ProofKit
import Derived.OpenShut
import Derived.Deep.Slices
namespace Go.Proofs.YtnbfnipdiffphaaDoor.Fo
open Go.ChangeShapes Go.WideShapes Go.ChangeAt Go.RowKit
inductive K | int (k : IntKind) | bool | str
def K.fit : K → Value → Prop
  | .int k, v => ∃ n, v = .int k n ∧ (Lit.int k n).wf = true
  | .bool, v => ∃ b, v = .bool b
  | .str, v => ∃ s : ByteArray, v = .string s ∧ s.size ≤ maxLen
/-- Where a type's cells lie and of what kind they are. -/
def flat (P : Program) : Nat → TypeId → Option (List (Nat × K))
  | 0, _ => none
  | n + 1, t => match P.underlying t with
    | some (.int k) => some [(0, .int k)]
    | some .bool => some [(0, .bool)]
    | some .string => some [(0, .str)]
    | some (.struct fs) => (fs.toList.mapM fun f => (flat P n f.type).map (List.map fun p => (f.offset + p.1, p.2))).map List.flatten
    | some (.array m e) => (flat P n e).map fun l => (List.range m).flatMap fun i => l.map fun p => (i * P.cellsOf e + p.1, p.2)
    | _ => none
section
variable {H : Type} {enc : TypeId × Value → H} {P : Program} {w : World} {base : Nat} {spare : Nat → Bool} {held : Bool}
theorem part {cs : List Value} {off size o : Nat} {v : Value} (h : ((cs.drop off).take size)[o]? = some v) : cs[off + o]? = some v := by
  rw [List.getElem?_take] at h
  split at h
  · rw [List.getElem?_drop] at h; exact h
  · cases h
theorem flat_sound : ∀ (n : Nat) (t : TypeId) (ks : List (Nat × K)), flat P n t = some ks → ∀ (fuel : Nat) (cs : List Value) (x : DataW H × List MemPlace), DataW.trod enc P w base spare held fuel t cs = some x → ∀ p ∈ ks, ∃ v, cs[p.1]? = some v ∧ p.2.fit v := by
  intro n
  induction n with
  | zero => intro t ks h; cases h
  | succ n ih =>
    intro t ks h fuel cs x hx p hp
    unfold flat at h
    split at h
    · next k hu =>
      injection h with h
      subst h
      obtain ⟨i, rfl, _, hw⟩ := DataW.trod_int hu hx
      simp only [List.mem_singleton] at hp
      subst hp
      exact ⟨_, rfl, i, rfl, hw⟩
    · next hu =>
      injection h with h
      subst h
      obtain ⟨b, rfl, _⟩ := DataW.trod_bool hu hx
      simp only [List.mem_singleton] at hp
      subst hp
      exact ⟨_, rfl, b, rfl⟩
    · next hu =>
      injection h with h
      subst h
      obtain ⟨s, rfl, _, hw⟩ := DataW.trod_string hu hx
      simp only [List.mem_singleton] at hp
      subst hp
      exact ⟨_, rfl, s, rfl, hw⟩
    · next fs hu =>
      obtain ⟨ls, hls, rfl⟩ := Option.map_eq_some_iff.1 h
      obtain ⟨l, hl, hpl⟩ := List.mem_flatten.1 hp
      obtain ⟨i, hi⟩ := List.getElem?_of_mem hl
      have hlen := mapM_some_length hls
      have hi' : i < fs.toList.length := by rw [← hlen]; exact (List.getElem?_eq_some_iff.1 hi).1
      have hg := mapM_some_get hls i fs.toList[i] (List.getElem?_eq_getElem hi')
      rw [hi] at hg
      obtain ⟨l0, hl0, rfl⟩ := Option.map_eq_some_iff.1 hg
      obtain ⟨p0, hp0, rfl⟩ := List.mem_map.1 hpl
      obtain ⟨xs, m, _, _, hcl, hxl, hxs⟩ := DataW.trod_struct hu hx
      have hfi : fs[i]? = some fs.toList[i] := by simp
      have ht := hxs i _ hfi
      have hix : i < xs.length := by rw [hxl]; simpa using hi'
      rw [List.getElem?_eq_getElem hix] at ht
      obtain ⟨v, hv, hf⟩ := ih _ l0 hl0 m _ _ ht p0 hp0
      exact ⟨v, part hv, hf⟩
    · next m e hu =>
      obtain ⟨l, hl, rfl⟩ := Option.map_eq_some_iff.1 h
      obtain ⟨i, hi, hpl⟩ := List.mem_flatMap.1 hp
      obtain ⟨p0, hp0, rfl⟩ := List.mem_map.1 hpl
      have hi' := List.mem_range.1 hi
      obtain ⟨xs, m', _, _, hcl, hxl, hxs⟩ := DataW.trod_array hu hx
      have ht := hxs i hi'
      rw [List.getElem?_eq_getElem (by omega)] at ht
      obtain ⟨v, hv, hf⟩ := ih _ l hl m' _ _ ht p0 hp0
      exact ⟨v, part hv, hf⟩
    · cases h
theorem cells_get {a : Addr} {n : Nat} {cs : List Value} (h : w.cells? base a n = some cs) (o : Nat) (v : Value) (hv : cs[o]? = some v) : w.cell? (a.add o) = some v := by
  obtain ⟨_, hlen, hx⟩ := World.cells?_some h
  have ho : o < n := by rw [← hlen]; exact (List.getElem?_eq_some_iff.1 hv).1
  have := hx o ho
  rw [this]; exact hv
/-- A slice of structs that came in: its cells. -/
theorem flat_slice {t e : TypeId} {s : Option Addr} {len cap : Nat} {d : DataW H} {p : List MemPlace} (n : Nat) (ks : List (Nat × K)) (sz : Nat) (ht : P.underlying t = some (.slice e)) (hf : flat P n e = some ks) (hsz : P.cellsOf e = sz)
    (h : DataW.Trod enc P w 0 (fun _ => true) true t (.slice s len cap) d p) :
    (s = none ∧ len = 0 ∧ cap = 0) ∨ ∃ x, s = some x ∧ len ≤ cap ∧ cap ≤ maxLen ∧ ∀ i, i < cap → ∀ q ∈ ks, ∃ v, w.cell? (x.add (i * sz + q.1)) = some v ∧ q.2.fit v := by
  obtain ⟨fuel, hf'⟩ := h
  subst hsz
  rcases Deep.open_slice ht hf' with ⟨hcs, _⟩ | ⟨x, l, c, m, k, D, Pl, hcs, _, hl, hm, hmm, _, hx⟩
  · simp [Value.cells] at hcs
    obtain ⟨rfl, rfl, rfl⟩ := hcs
    exact Or.inl ⟨rfl, rfl, rfl⟩
  · simp [Value.cells] at hcs
    obtain ⟨rfl, rfl, rfl⟩ := hcs
    rw [if_pos rfl] at hmm
    refine Or.inr ⟨_, rfl, hl, hm, fun i hi q hq => ?_⟩
    obtain ⟨cs', h1, h2⟩ := hx i (by omega)
    obtain ⟨v, hv, hfit⟩ := flat_sound n e ks hf k cs' _ h2 q hq
    refine ⟨v, ?_, hfit⟩
    have := cells_get h1 q.1 v hv
    rwa [Deep.add_add] at this
/-- The same, the slice's first cell told as the walk meets it. -/
theorem flat_rows {t e : TypeId} {s : Option Addr} {len cap : Nat} {d : DataW H} {p : List MemPlace} (n : Nat) (k0 : K) (ks : List (Nat × K)) (sz : Nat) (ht : P.underlying t = some (.slice e)) (hf : flat P n e = some ((0, k0) :: ks)) (hsz : P.cellsOf e = sz)
    (h : DataW.Trod enc P w 0 (fun _ => true) true t (.slice s len cap) d p) :
    len ≤ maxLen ∧ (len = 0 ∨ ∃ b off, s = some ⟨b, off, none⟩ ∧ ∀ i, i < len → ∀ q ∈ (0, k0) :: ks, ∃ v, w.cell? ⟨b, off + (i * sz + q.1), none⟩ = some v ∧ q.2.fit v) := by
  rcases flat_slice n _ sz ht hf hsz h with ⟨rfl, rfl, rfl⟩ | ⟨x, rfl, hl, hm, hcell⟩
  · exact ⟨Nat.zero_le _, Or.inl rfl⟩
  · refine ⟨Nat.le_trans hl hm, ?_⟩
    by_cases h0 : len = 0
    · exact Or.inl h0
    · obtain ⟨b, off, spot⟩ := x
      obtain ⟨v, hv, _⟩ := hcell 0 (by omega) (0, k0) (List.mem_cons_self ..)
      have hspot : spot = none := by simpa [Addr.add] using World.cell?_spot hv
      subst hspot
      refine Or.inr ⟨b, off, rfl, fun i hi q hq => ?_⟩
      obtain ⟨v, hv, hfit⟩ := hcell i (by omega) q hq
      exact ⟨v, by rw [← Go.WideShapes.add_plain]; exact hv, hfit⟩
end
end Go.Proofs.YtnbfnipdiffphaaDoor.Fo
