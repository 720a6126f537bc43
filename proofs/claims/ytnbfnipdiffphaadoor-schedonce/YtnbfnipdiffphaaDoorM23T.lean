/- Layer 23: triggers' rows; how far a trigger's end lies. -/
import Derived.Test.YtnbfnipdiffphaaDoorB23
import Derived.Test.YtnbfnipdiffphaaDoorYh
namespace Go.Proofs.YtnbfnipdiffphaaDoor
open Go.RowKit Go.WideShapes
set_option linter.unusedVariables false
abbrev trA (t : Yq.Tr) : Array Value := #[.int .i64 t.kind, .int .i64 t.at_, .int .i64 t.cycle, .int .i64 t.rep, .int .i64 t.msg, .int .i64 t.til]
theorem tinfo23 : (Tryd.prog.info? 36).map (·.size) = some 6 := by kernel_rfl
theorem tr_one (t : Yq.Tr) : (trA t).all (·.oneCell') = true := by simp [trA, Value.oneCell']
theorem Q23.op_now (s : Q23.St) (n : Int) : (Q23.now s n).op = Q23.lastO s.op (Q23.told s n) := by
  by_cases h : n < s.at_
  · rw [Q23.now_lo h, Q23.told_lo h]; rfl
  · rw [Q23.now_hi h, Q23.told_hi h]
theorem Yq.til_rng {m : Mx.M} {who : Int} {t : Yq.Tr} (h : Lq.Passes m) (ht : t ∈ Yq.plan m who) : -10000 ≤ t.til ∧ t.til ≤ 10000 := by
  have hs := Yq.step_pos h.is
  have hc := Lq.cyc_of h.is
  have he : 1 ≤ m.enable ∧ m.enable ≤ 16 := by
    have h := h.is
    simp only [Mx.is, Mx.lens, Mx.scal, Mx.within, Mx.power, Bool.and_eq_true, decide_eq_true_eq, Bool.or_eq_true, beq_iff_eq] at h
    omega
  rcases Yq.mem_plan ht with ⟨x, hx, htr⟩ | ⟨h0, rfl | rfl⟩ | rfl
  · obtain ⟨i, hi⟩ := List.getElem?_of_mem hx
    have wx := Lq.wx_of h hi
    obtain ⟨k1, k2, k3, k4, k5, _⟩ := wx
    unfold Yq.trig at htr
    split at htr
    · split at htr
      · split at htr
        · injection htr with e
          subst e
          dsimp only
          omega
        · injection htr with e
          subst e
          dsimp only
          omega
      · cases htr
    · split at htr
      · injection htr with e
        subst e
        dsimp only
        omega
      · cases htr
  · exact ⟨by show (-10000 : Int) ≤ 0; omega, by show (0 : Int) ≤ 10000; omega⟩
  · exact ⟨by show (-10000 : Int) ≤ 0; omega, by show (0 : Int) ≤ 10000; omega⟩
  · exact ⟨by show (-10000 : Int) ≤ 0; omega, by show (0 : Int) ≤ 10000; omega⟩
end Go.Proofs.YtnbfnipdiffphaaDoor
