/- Runs counted place by place; plain mathematics. -/
import Derived.Test.YtcgpnnmceijmjaaSm4
namespace Go.Proofs.Ytcgpnnmceijmjaa.Sm
theorem run_take_succ (T : List Bool) (k : Nat) (h : k < T.length) : run (0, false) (T.take (k + 1)) = step (run (0, false) (T.take k)) T[k] := by
  rw [List.take_succ_eq_append_getElem h, run_append, run_cons, run_nil]
theorem run_take_snd (T : List Bool) (k : Nat) (h : k < T.length) : (run (0, false) (T.take (k + 1))).2 = T[k] := by rw [run_take_succ T k h, step_snd]
theorem run_take_pos (T : List Bool) (k : Nat) (h : k < T.length) : 0 < (run (0, false) (T.take (k + 1))).1 := by rw [run_take_succ T k h]; exact step_pos _ _
theorem run_first (T : List Bool) (h : 0 < T.length) : (run (0, false) (T.take 1)).1 = 1 := by
  rw [run_take_succ T 0 h]; show (step (0, false) _).1 = 1; rw [step_zero]
theorem run_again (T : List Bool) (k : Nat) (h : k + 1 < T.length) (e : T[k + 1] = T[k]) : (run (0, false) (T.take (k + 1 + 1))).1 = (run (0, false) (T.take (k + 1))).1 + 1 := by
  rw [run_take_succ T (k + 1) h]
  unfold step
  rw [if_pos ⟨run_take_pos T k (by omega), by rw [run_take_snd T k (by omega), e]⟩]
theorem run_anew (T : List Bool) (k : Nat) (h : k + 1 < T.length) (e : T[k + 1] ≠ T[k]) : (run (0, false) (T.take (k + 1 + 1))).1 = 1 := by
  rw [run_take_succ T (k + 1) h]
  unfold step
  rw [if_neg (fun h2 => e (by rw [← h2.2, run_take_snd T k (by omega)]))]
theorem sign_get (T : List Bool) (k : Nat) (h : k < T.length) : (Bm.row T)[k]? = some (Bm.sign T[k]) := by
  unfold Bm.row
  rw [List.getElem?_map, List.getElem?_eq_getElem h]
  rfl
theorem sign_eq (a b : Bool) : (((Bm.sign a).toNat : Int) == ((Bm.sign b).toNat : Int)) = (a == b) := by cases a <;> cases b <;> decide
/-- the last bit of a row behind five alike may be missing -/
theorem drop_last (T s : List Bool) (hc : calm (0, false) T) (hs : unstuff T = (s, -1)) (L : Nat) (hL : T.length = L + 6) (b : Bool)
    (h1 : T[L]? = some b) (h2 : T[L + 1]? = some b) (h3 : T[L + 2]? = some b) (h4 : T[L + 3]? = some b) (h5 : T[L + 4]? = some b) : unstuff (T.take (L + 5)) = (s, -1) := by
  have e5 : T.take (L + 5) = T.take L ++ [b, b, b, b, b] := by
    rw [List.take_add_one, h5, List.take_add_one, h4, List.take_add_one, h3, List.take_add_one, h2, List.take_add_one, h1]
    simp
  have hl : L + 5 < T.length := by omega
  have e6 : T = T.take (L + 5) ++ [T[L + 5]] := by
    conv => lhs; rw [← List.take_of_length_le (Nat.le_refl T.length), hL, show L + 6 = L + 5 + 1 by omega, List.take_succ_eq_append_getElem hl]
  have hr : 5 ≤ (run (0, false) (T.take (L + 5))).1 := by rw [e5]; exact run_five _ _ _
  have hr2 : (run (0, false) (T.take (L + 5))).1 ≤ 5 := hc (L + 5)
  refine un_drop (T.take (L + 5)) T[L + 5] s ?_ (by omega) ?_
  · rw [← e6]; exact hc
  · rw [← e6]; exact hs
end Go.Proofs.Ytcgpnnmceijmjaa.Sm
