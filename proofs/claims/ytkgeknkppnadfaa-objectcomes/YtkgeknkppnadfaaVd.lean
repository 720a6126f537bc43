/- Layer 17: a list that was told. -/
import Derived.Test.YtkgeknkppnadfaaVc
namespace Go.Proofs.Ytkgeknkppnadfaa
open Go.RowKit Go.WideShapes
set_option linter.unusedVariables false
/-- What All tells of a queue that isn't empty: its first word may be written, and the queue stays. -/
theorem Qs.all0 {At : Ob.A Vq.St} (S : QueueSpec At) {W w : World} {p : Nat} {s : Vq.St} {R : List (Nat × Obj)} (h : Qs At W w p s R) (h0 : 0 < s.l.length) : Calls Try.prog 45 #[Ob.ptr p] w fun e w' => ∃ g o c, e = .returned (.slice (some ⟨g, o, none⟩) s.l.length c) ∧ s.l.length ≤ c ∧ w'.cell? ⟨g, o, none⟩ = some (.int .i64 (Vq.hd s).msg) ∧ w'.frozen? ⟨g, o, none⟩ = false ∧ ∀ v, Qs At W (w'.setCell ⟨g, o, none⟩ v) p s [] := by
  obtain ⟨F, h1, h2, h3, h4⟩ := h
  refine (S.all w p F s h1).mono ?_
  rintro e w' ⟨a, c, F', rfl, hO, hA, hs, hd, hk⟩
  have hc0 : 0 < c := Nat.lt_of_lt_of_le h0 hO.sl.1
  rcases hO.sl.2.2.2 with k0 | ⟨g, o, rfl, hg, hc, hr⟩
  · omega
  · refine ⟨g, o, c, rfl, hO.sl.1, ?_, ?_, fun v => ?_⟩
    · have := hc 0 (.int .i64 (Vq.hd s).msg) (by
        cases hl : s.l with
        | nil => rw [hl] at h0; exact absurd h0 (Nat.lt_irrefl 0)
        | cons d l => unfold Vq.hd; rw [hl]; rfl)
      rwa [Nat.add_zero] at this
    · have := (hr 0 (by omega)).2
      rwa [Nat.add_zero] at this
    · have hgF : ¬ F' g := hd g ⟨hc0, rfl⟩
      have hge : w.heap.size ≤ g := by
        obtain ⟨g1, o1, cur, e2, hB, _⟩ := hO.ty hc0
        injection e2 with e2
        injection e2 with e2 _
        rw [e2]
        exact hB
      have hks : Kept (fun j => j = g) w' (w'.setCell ⟨g, o, none⟩ v) := Kept.set _ _ _ rfl
      have hb : Below W.heap.size W w' := h3.trans (hk.below h2 h3.size)
      refine ⟨F', S.is.on hA (fun j hj => hks.block j (S.is.lt hA j hj) (fun e => hgF (e ▸ hj))), fun j hj => (hs j hj).elim (h2 j) (Nat.le_trans h3.size), hb.trans (hks.below (fun j hj => by rw [hj]; exact Nat.le_trans h3.size hge) hb.size), fun x hx => by cases hx⟩
end Go.Proofs.Ytkgeknkppnadfaa
