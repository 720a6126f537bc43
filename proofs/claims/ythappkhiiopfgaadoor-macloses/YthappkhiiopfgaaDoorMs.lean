/- same, over its text: two lists of the same events. -/
import Derived.Test.YthappkhiiopfgaaDoorNe
import Derived.Test.YthappkhiiopfgaaDoorU2
namespace Go.Proofs.YthappkhiiopfgaaDoor
open Go.RowKit
set_option linter.unusedVariables false
theorem evC_get (l : List Mm.Ev) (i : Nat) (v : Mm.Ev) (h : l[i]? = some v) (j : Nat) (hj : j < 6) : (evC l)[i * 6 + j]? = (evV v)[j]? := by
  induction l generalizing i with
  | nil => cases h
  | cons a l ih =>
    have hl : (evV a).length = 6 := rfl
    have e : evC (a :: l) = evV a ++ evC l := rfl
    rw [e]
    cases i with
    | zero =>
      have h' : a = v := by simpa using h
      subst h'
      rw [List.getElem?_append_left (by omega), Nat.zero_mul, Nat.zero_add]
    | succ i =>
      rw [List.getElem?_append_right (by omega), show (i + 1) * 6 + j - (evV a).length = i * 6 + j by omega]
      exact ih i (by simpa using h)
end Go.Proofs.YthappkhiiopfgaaDoor
