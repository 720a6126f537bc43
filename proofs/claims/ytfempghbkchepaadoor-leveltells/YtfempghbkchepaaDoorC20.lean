/- Layer 20: the document's Level, over its text. -/
import Derived.Test.YtfempghbkchepaaDoorH19
import Derived.Test.YtfempghbkchepaaDoorJ19
import Derived.Test.YtfempghbkchepaaDoorA20
import Derived.ProofKit
import Derived.OpenShut
import Derived.Deep.CutBlock
namespace Go.Proofs.YtfempghbkchepaaDoor
open Go.RowKit Go.WideShapes
set_option linter.unusedVariables false
set_option maxRecDepth 100000 in
set_option maxHeartbeats 8000000 in
theorem rt_level (w : World) (r : Nat) (F : Nat → Prop) (s : List Nat) (a b : Bool) (h : RtAt w r F s) : Ob.Looks Tryd.prog 12 #[Ob.ptr r, .bool a, .bool b] w (.int .i64 (Q19.of_ s a b : Int)) := by
  have HS : Hid (Ob.Looks Tryd.prog 19 #[Ob.ptr r] w (.tuple #[.int .i64 (Q19.spread s : Int), .int .i64 (Q19.hi s : Int)])) := rt_spread w r F s h
  have hsp : Q19.spread s ≤ 7 := by obtain ⟨_, _, _, _, hO⟩ := h; exact Q19.spread_le hO
  clear h
  unfold Ob.Looks at HS ⊢
  unfold Q19.of_ Q19.lev
  generalize Q19.spread s = d at HS hsp ⊢
  generalize Q19.hi s = x at HS ⊢
  cases a
  · cases b
    · have e : (if (false || false) = true then 3 else if x = 7 then 2 else if 2 < d then 1 else 0) = if x = 7 then 2 else if 2 < d then 1 else 0 := rfl
      rw [e]
      clear e
      by_cases h7 : x = 7
      · subst h7
        rw [if_pos rfl]
        go_enter Tryd.func12, Tryd.ntmps12
        go_wp2_with fail
        refine (HS.out).mono ?_
        rintro e w1 ⟨rfl, hb⟩
        have HB : Hid (Below w.heap.size w w1) := hb
        clear hb HS
        go_wp2
        go_ret
        exact ⟨rfl, HB.out⟩
      · have h7b : ((x : Int) == 7) = false := beq_eq_false_iff_ne.2 (by omega)
        rw [if_neg h7]
        by_cases h2 : 2 < d
        · have h2i : (2 : Int) < (d : Int) := by omega
          have h2d : decide ((2 : Int) < (d : Int)) = true := decide_eq_true h2i
          rw [if_pos h2]
          clear h2 h2i h7
          go_enter Tryd.func12, Tryd.ntmps12
          go_wp2_with fail
          refine (HS.out).mono ?_
          rintro e w1 ⟨rfl, hb⟩
          have HB : Hid (Below w.heap.size w w1) := hb
          clear hb HS
          go_wp2
          go_ret
          exact ⟨rfl, HB.out⟩
        · have h2i : ¬ ((2 : Int) < (d : Int)) := by omega
          have h2d : decide ((2 : Int) < (d : Int)) = false := decide_eq_false h2i
          rw [if_neg h2]
          clear h2 h2i h7
          go_enter Tryd.func12, Tryd.ntmps12
          go_wp2_with fail
          refine (HS.out).mono ?_
          rintro e w1 ⟨rfl, hb⟩
          have HB : Hid (Below w.heap.size w w1) := hb
          clear hb HS
          go_wp2
          go_ret
          exact ⟨rfl, HB.out⟩
    · show Calls _ _ _ _ (fun e w' => e = .returned (.int .i64 3) ∧ _)
      clear HS
      go_enter Tryd.func12, Tryd.ntmps12
      go_wp2
      go_ret
      exact ⟨rfl, Below.refl _ _⟩
  · show Calls _ _ _ _ (fun e w' => e = .returned (.int .i64 3) ∧ _)
    clear HS
    go_enter Tryd.func12, Tryd.ntmps12
    go_wp2
    go_ret
    exact ⟨rfl, Below.refl _ _⟩
end Go.Proofs.YtfempghbkchepaaDoor
