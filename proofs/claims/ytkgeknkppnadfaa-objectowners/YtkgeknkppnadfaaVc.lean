/- Layer 17: events in a row. -/
import Derived.Test.YtkgeknkppnadfaaVb
namespace Go.Proofs.Ytkgeknkppnadfaa
set_option linter.unusedVariables false
def rg (D : ByteArray) (i m : Nat) : List Vq.Dl := (List.range' i (m - i)).map (fun j : Nat => ⟨(j : Int), D⟩)
theorem rg_len (D : ByteArray) (i m : Nat) : (rg D i m).length = m - i := by unfold rg; rw [List.length_map, List.length_range']
theorem rg_push (D : ByteArray) {i m : Nat} (h : i ≤ m) : rg D i m ++ [⟨(m : Int), D⟩] = rg D i (m + 1) := by
  unfold rg
  rw [show m + 1 - i = (m - i) + 1 by omega, List.range'_concat, List.map_append, List.map_singleton, show i + 1 * (m - i) = m by omega]
theorem rg_cons (D : ByteArray) {i m : Nat} (h : i < m) : rg D i m = ⟨(i : Int), D⟩ :: rg D (i + 1) m := by
  unfold rg
  rw [show m - i = (m - (i + 1)) + 1 by omega, List.range'_succ, List.map_cons]
theorem rg_nil (D : ByteArray) (m : Nat) : rg D m m = [] := by unfold rg; rw [Nat.sub_self]; rfl
theorem natU8v {x : Int} (h : (Lit.int .u8 x).wf = true) : ∃ n : Nat, x = (n : Int) ∧ n < 256 := by
  simp [Lit.wf, IntKind.min, IntKind.max, IntKind.signed, IntKind.bits] at h
  obtain ⟨n, rfl⟩ := Int.eq_ofNat_of_zero_le (show 0 ≤ x by omega)
  exact ⟨n, rfl, by omega⟩
theorem wfn {k : Nat} (h : k < 100000) : (Lit.int .i64 (k : Int)).wf = true := WalkArith.wf_i64 ⟨by omega, by omega⟩
end Go.Proofs.Ytkgeknkppnadfaa
