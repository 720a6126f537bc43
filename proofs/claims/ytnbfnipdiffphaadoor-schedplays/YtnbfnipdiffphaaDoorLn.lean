/- Layer 14: what passes, window by window; plain. -/
import Derived.Test.YtnbfnipdiffphaaDoorLq
namespace Go.Proofs.YtnbfnipdiffphaaDoor.Lq
open Mx
set_option linter.unusedVariables false
theorem comes_mod {cy rp c : Int} (h0 : 0 ≤ c) (h1 : 0 ≤ cy) (h2 : cy < rp) : comes cy rp c = (c % rp == cy) := by
  have hp : 0 < rp := by omega
  unfold comes
  rw [decide_eq_true hp, decide_eq_true h1, Bool.true_and, Bool.true_and, Bool.eq_iff_iff]
  simp only [Bool.and_eq_true, decide_eq_true_eq, beq_iff_eq]
  have hc : cy % rp = cy := Int.emod_eq_of_lt h1 h2
  constructor
  · rintro ⟨_, h⟩
    have := (Int.emod_eq_emod_iff_emod_sub_eq_zero (m := c) (n := rp) (k := cy)).2 h
    omega
  · intro h
    have h3 : c % rp ≤ c := by
      have e1 := Int.emod_add_mul_ediv c rp
      have e2 : 0 ≤ rp * (c / rp) := Int.mul_nonneg (by omega) (Int.ediv_nonneg h0 (by omega))
      omega
    exact ⟨by omega, Int.emod_eq_emod_iff_emod_sub_eq_zero.1 (by omega)⟩
/-- What is known of a window of a matrix that passes. -/
structure Wx (m : M) (i : Nat) (x : Win) : Prop where
  kind : 1 ≤ x.kind ∧ x.kind ≤ 3
  st : 0 ≤ x.start ∧ x.start < x.fin ∧ x.fin ≤ m.length
  rep : 0 < x.rep ∧ x.rep ≤ 8 ∧ x.rep ≤ m.cycles
  cy : 0 ≤ x.cycle ∧ x.cycle < x.rep
  msg : 0 ≤ x.msg ∧ x.msg ≤ 99
  t1 : step m ≤ x.start
  t2 : x.kind ≠ 3 → step m ≤ x.fin - x.start
  ms : x.kind = 1 → ∃ k y, x.msg = ((k : Nat) : Int) ∧ m.messages[k]? = some y ∧ y.event = false
  mt : ∀ (k : Nat) y, k < i → m.windows[k]? = some y → meetW m.cycles y x = false
theorem cyc_of {m : M} (h : Mx.is m = true) : 1 ≤ m.cycles ∧ m.cycles ≤ 8 ∧ 1 ≤ m.length ∧ m.length ≤ 4000 ∧ 1 ≤ m.masters.length ∧ 1 ≤ m.enable ∧ m.enable ≤ 16 ∧ 1 ≤ m.unit ∧ m.unit ≤ 64 ∧ 1 ≤ m.nodes ∧ m.nodes ≤ 8 := by
  simp only [Mx.is, scal, lens, within, power, Bool.and_eq_true, Bool.or_eq_true, decide_eq_true_eq, beq_iff_eq] at h
  omega
theorem win_of {m : M} {x : Win} (h : Mx.is m = true) (hx : x ∈ m.windows) : winOk m x = true := by
  simp only [Mx.is, Bool.and_eq_true] at h
  exact List.all_eq_true.1 h.2 x hx
theorem wx_of {m : M} (h : Passes m) {i : Nat} {x : Win} (hx : m.windows[i]? = some x) : Wx m i x := by
  have hi := (List.getElem?_eq_some_iff.1 hx).1
  have hw := win_of h.is (List.mem_of_getElem? hx)
  simp only [winOk, within, power, Bool.and_eq_true, Bool.or_eq_true, decide_eq_true_eq, beq_iff_eq] at hw
  have he := h.wins i hi
  unfold eWin at he
  rw [hx] at he
  dsimp only at he
  cases h1 : noMsg m x with
  | true => rw [h1] at he; simp at he
  | false =>
    cases h2 : tight m x with
    | true => rw [h1, h2] at he; simp at he
    | false =>
      cases h3 : meets m i with
      | true => rw [h1, h2, h3] at he; simp at he
      | false =>
        simp only [tight, Bool.or_eq_false_iff, Bool.and_eq_false_iff, decide_eq_false_iff_not, bne_eq_false_iff_eq] at h2
        refine ⟨by omega, by omega, by omega, by omega, by omega, by omega, fun hk => ?_, fun hk => ?_, fun k y hk hy => ?_⟩
        · rcases h2.2 with h | h
          · exact absurd h hk
          · omega
        · unfold noMsg at h1
          rw [beq_iff_eq.2 hk, Bool.true_and] at h1
          unfold noMsg.getMsg at h1
          rw [if_pos (by omega)] at h1
          cases hq : m.messages[x.msg.toNat]? with
          | none => rw [hq] at h1; simp at h1
          | some y =>
            rw [hq] at h1
            exact ⟨x.msg.toNat, y, by omega, hq, h1⟩
        · have := List.any_eq_false.1 h3 k (List.mem_range.2 hk)
          have e : meet m (k : Int) (i : Int) = meetW m.cycles y x := by
            unfold meet getW
            rw [if_pos (by omega), if_pos (by omega), Int.toNat_natCast, Int.toNat_natCast, hy, hx]
          rw [e] at this
          simpa using this
theorem Wx.apart {m : M} {i k : Nat} {x y : Win} (h : Wx m i x) (hk : k < i) (hy : m.windows[k]? = some y) {c : Nat} (h8 : c < 8) (hc : (c : Int) < m.cycles) (h1 : comes y.cycle y.rep (c : Int) = true) (h2 : comes x.cycle x.rep (c : Int) = true) : y.start < x.fin → x.start < y.fin → False := fun a b => by
  have := h.mt k y hk hy
  unfold meetW cross at this
  rw [decide_eq_true a, decide_eq_true b, Bool.true_and, Bool.true_and] at this
  have h3 := List.any_eq_false.1 this c (List.mem_range.2 h8)
  unfold both at h3
  rw [decide_eq_true hc, h1, h2] at h3
  simp at h3
end Go.Proofs.YtnbfnipdiffphaaDoor.Lq
