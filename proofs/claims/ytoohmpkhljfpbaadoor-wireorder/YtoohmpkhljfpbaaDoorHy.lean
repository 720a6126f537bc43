/- Package wire, over the landed code: what a bit tells is a list of its own. -/
import Derived.Test.YtoohmpkhljfpbaaDoorUh
import Derived.Test.YtoohmpkhljfpbaaDoorHe
namespace Go.Proofs.YtoohmpkhljfpbaaDoor
open Go.RowKit
set_option linter.unusedVariables false
theorem stepNew : StepNew WireAt where
  step := by
    rintro w p F W fl ⟨gn, N, rfl, h, h1, h2, h3⟩ hT hl
    refine (wstep_any w p gn W.qb N W.bs fl h hT hl _ rfl).mono fun e w' ⟨s, cap, N', he, hM⟩ => ?_
    have hev := hM.ev
    rw [evk_all] at hev
    obtain ⟨q1, q2, q3⟩ := sofar_end hM.so (Nat.le_refl _)
    unfold Mm.wtold Mm.wnext Mm.wbit
    rw [h1, h2]
    refine ⟨s, cap, he, hev.inn, fun q e => ?_, _, ⟨gn, N', rfl, hM.wi, q2.symm, q3.symm, by show W.qs = _; rw [h3, q1]⟩, hM.fp, hM.kept⟩
    have hp := hev.plain q e
    cases q with
    | mk b o sp =>
      dsimp only at hp
      subst hp
      exact (hev.zero b o e).2.1
end Go.Proofs.YtoohmpkhljfpbaaDoor
