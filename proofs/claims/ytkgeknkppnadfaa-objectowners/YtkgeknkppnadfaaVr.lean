/- A region that draws, reads in whatever order, and communicates at its end. Nothing of the program is in it. -/
import Derived.Test.YtkgeknkppnadfaaVn
import Derived.StillTail
import Derived.StillTailTactics
namespace Go.Proofs.Ytkgeknkppnadfaa.Vn
open Go.RowKit Go.Conc
set_option linter.unusedVariables false
section
variable {P : Program} {Q : Exit → Act → World → Prop} {a : Act} {w : World} {md : Region.Mode} {ops : Array Oper}
theorem Op1.of_st {i : Nat} {o : Oper} {K : Act → Prop} {K' : Act → World → Prop} (hi : ops[i]? = some o) (hK : ∀ a', K a' → K' a' w) (h : stOp P ops w i K a) : Op1 P ops Q i K' a w := by
  obtain ⟨v, hy, hk⟩ := yieldsAt_of_stOp hi h
  intro rest hR
  have hr := hR _ _ (hK _ hk)
  rcases hy with ⟨hw, hv | ⟨hv, rfl⟩ | ⟨f, args, hv, hc⟩⟩ | ⟨hw, rfl⟩
  · exact .val hi hw hv hr
  · exact .none_ hi hw hv hr
  · refine .call (R := fun u w' => u = v ∧ w' = w) hi hw hv (hc.mono fun e w' ⟨he, hw'⟩ => ⟨v, he, rfl, hw'⟩) ?_
    rintro u w' ⟨rfl, rfl⟩
    exact hr
  · exact .skip hi hw hr
theorem Any.of_head {n g : Nat} {L : Array Bool → Act → Prop} (hL : ∀ listed a, L listed a → Any P md ops Q g listed a w) :
    ∀ (f : Nat) (listed : Array Bool) (a : Act), wpAnyL P md ops w n L f listed a → Any P md ops Q (f + g) listed a w
  | 0, listed, a, h => by rw [Nat.zero_add]; exact hL _ _ h
  | f + 1, listed, a, h => by
    rw [show f + 1 + g = (f + g) + 1 by omega]
    refine ⟨fun h0 => absurd h0 h.1, fun i hi => ?_⟩
    obtain ⟨_, oi, hoi, _⟩ := mem_ready.1 hi
    exact Op1.of_st hoi (fun a' h' => Any.of_head hL f _ a' h') (h.2 i hi).2
/-- All but the last one read; the last one communicates. -/
theorem region_last {id : Nat} {l : List Oper} (n : Nat) (hl : l.length = n + 1) (hm : P.follows .mixedOrders = true) (hB : Region.lexTailB .any l.toArray n = true)
    (h : ∀ w1, w1 = w.drew → wpStill P l.toArray w1 (fun a' => Op1 P l.toArray Q n (fun a w => Q .normal a w) a' w1) (l.take n) a) : NWp P (.region id l.toArray true) Q a w := by
  simp only [Region.lexTailB, Bool.and_eq_true, decide_eq_true_eq] at hB
  obtain ⟨⟨⟨⟨hsel, hn⟩, hs⟩, hc⟩, hlex⟩ := hB
  have htl : (l.take n).length = n := by simp; omega
  have hg : l.toArray.size - n = 1 := by simp; omega
  rw [hg] at hlex
  have inv0 : HeadInv .any l.toArray n (Array.replicate l.toArray.size false) :=
    ⟨by simp, fun j oj _ hl => (by rw [getD_replicate_false] at hl; cases hl), fun t _ ht => getD_in (by simpa using ht) (getD_replicate_false _ _)⟩
  have H := wpAnyL_lex (md := .any) (g := 1) hsel hs hc hn (l.take n) 0 _ a (fun j hj => by
    have hj' : j < n := by rw [htl] at hj; exact hj
    simp [hj']) (by simpa using htl) inv0 (by rw [htl]; exact hlex) (h _ rfl)
  refine regionD hm ?_
  have := Any.of_head (Q := Q) (g := 1) (fun listed a' hL => by
    obtain ⟨hq, hop⟩ := hL
    simp only [Region.seqB, Bool.and_eq_true, decide_eq_true_eq, List.isEmpty_iff] at hq
    refine Any.cons (n := 0) [n] hq.1 (by simp) (fun i hi => ?_)
    obtain rfl := List.mem_singleton.1 hi
    intro rest hR
    exact hop rest (fun a2 w2 h2 => hR a2 w2 ⟨hq.2, h2⟩)) _ _ _ H
  rw [htl, show n + 1 = l.toArray.size by simp; omega] at this
  exact this
end
end Go.Proofs.Ytkgeknkppnadfaa.Vn
