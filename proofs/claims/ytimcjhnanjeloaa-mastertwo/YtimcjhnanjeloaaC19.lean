/- Layer 19: one counter alone that isn't 0; bytes that came in. -/
import Derived.Test.YtimcjhnanjeloaaB19
namespace Go.Proofs.Ytimcjhnanjeloaa
set_option linter.unusedVariables false
namespace Q19
structure One (s : List Nat) (n : Nat) (k : Int) (x : Nat) : Prop where
  ok : Ok s
  len : s.length = n
  got : get s k = x
  other : ∀ j, j ≠ k → get s j = 0
theorem One.up {s : List Nat} {n : Nat} {k : Int} {x : Nat} (h : One s n k x) (hk : 0 ≤ k ∧ k < (n : Int)) : One (Q19.up s k) n k (min 7 (x + 1)) := by
  have hi : inn s k = true := inn_iff.2 ⟨hk.1, by rw [h.len]; exact hk.2⟩
  refine ⟨ok_up h.ok k, by rw [len_up]; exact h.len, ?_, fun j hj => ?_⟩
  · rw [get_up, hi, h.got]; simp
  · rw [get_up, if_neg (by simp [hj])]; exact h.other j hj
theorem One.down {s : List Nat} {n : Nat} {k : Int} {x : Nat} (h : One s n k x) (hk : 0 ≤ k ∧ k < (n : Int)) : One (Q19.down s k) n k (x - 1) := by
  have hi : inn s k = true := inn_iff.2 ⟨hk.1, by rw [h.len]; exact hk.2⟩
  refine ⟨ok_down h.ok k, by rw [len_down]; exact h.len, ?_, fun j hj => ?_⟩
  · rw [get_down, hi, h.got]; simp
  · rw [get_down, if_neg (by simp [hj])]; exact h.other j hj
theorem one_mk (n : Int) (k : Int) : One (mk n) (held n) k 0 := ⟨ok_mk n, len_mk n, get_mk n k, fun j _ => get_mk n j⟩
theorem One.mem {s : List Nat} {n : Nat} {k : Int} {x : Nat} (h : One s n k x) {j : Nat} {y : Nat} (hy : s[j]? = some y) : (j : Int) = k ∧ y = x ∨ (j : Int) ≠ k ∧ y = 0 := by
  have hg := get_nat hy
  by_cases e : (j : Int) = k
  · exact Or.inl ⟨e, by rw [← hg, e]; exact h.got⟩
  · exact Or.inr ⟨e, by rw [← hg]; exact h.other _ e⟩
theorem One.spread {s : List Nat} {n : Nat} {k : Int} {x : Nat} (h : One s n k x) (hk : 0 ≤ k ∧ k < (n : Int)) (hn : 2 ≤ n) : Q19.spread s = x := by
  obtain ⟨m, rfl⟩ := Int.eq_ofNat_of_zero_le hk.1
  obtain ⟨y, hy⟩ : ∃ y, s[m]? = some y := ⟨_, List.getElem?_eq_getElem (by rw [h.len]; omega)⟩
  have hyx : y = x := by
    rcases h.mem hy with ⟨_, e⟩ | ⟨e, _⟩
    · exact e
    · exact absurd rfl e
  have h1 : hi s = x := by
    apply Nat.le_antisymm
    · refine hi_le (fun z hz => ?_)
      obtain ⟨j, hj⟩ := List.getElem?_of_mem hz
      rcases h.mem hj with ⟨_, e⟩ | ⟨_, e⟩ <;> omega
    · rw [← hyx]; exact mem_hi (List.mem_of_getElem? hy)
  have h2 : lo s = 0 := by
    obtain ⟨j, hj, hjm⟩ : ∃ j : Nat, j < n ∧ j ≠ m := by
      by_cases e : m = 0
      · exact ⟨1, by omega, by omega⟩
      · exact ⟨0, by omega, fun k => e k.symm⟩
    obtain ⟨z, hz⟩ : ∃ z, s[j]? = some z := ⟨_, List.getElem?_eq_getElem (by rw [h.len]; omega)⟩
    have hz0 : z = 0 := by
      rcases h.mem hz with ⟨e, _⟩ | ⟨_, e⟩
      · exact absurd (Int.ofNat.inj e) hjm
      · exact e
    have := lo_mem (List.mem_of_getElem? hz)
    omega
  unfold Q19.spread
  omega
theorem One.spread1 {s : List Nat} {n : Nat} {k : Int} {x : Nat} (h : One s n k x) (hn : n ≤ 1) : Q19.spread s = 0 := by
  have hl := h.len
  unfold Q19.spread
  match s, hl with
  | [], _ => rfl
  | [y], _ => show y - y = 0; omega
  | _ :: _ :: _, hl => simp at hl; omega
end Q19
theorem natU8w {x : Int} (h : (Lit.int .u8 x).wf = true) : ∃ n : Nat, x = (n : Int) ∧ n < 256 := by
  simp [Lit.wf, IntKind.min, IntKind.max, IntKind.signed, IntKind.bits] at h
  obtain ⟨n, rfl⟩ := Int.eq_ofNat_of_zero_le (show 0 ≤ x by omega)
  exact ⟨n, rfl, by omega⟩
end Go.Proofs.Ytimcjhnanjeloaa
