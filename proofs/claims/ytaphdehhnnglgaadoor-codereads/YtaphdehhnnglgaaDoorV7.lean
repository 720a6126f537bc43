/- The document's own reader of frames: what Next answers, at every place, as the plain mathematics say it. -/
import Derived.Test.YtaphdehhnnglgaaDoorV6
namespace Go.Proofs.YtaphdehhnnglgaaDoor
open Go.RowKit
theorem parse_le (bs : List Bool) : (Fm.parse bs).2.1 ≤ bs.length := by
  have hd : ∀ x n r p k, (Fm.parseD bs x n r p k).2.1 ≤ bs.length := by
    intro x n r p k
    unfold Fm.parseD
    split
    · exact Nat.zero_le _
    · dsimp only; omega
  have hl : ∀ x n r p, (Fm.parseL bs x n r p).2.1 ≤ bs.length := by
    intro x n r p
    unfold Fm.parseL
    split
    · exact Nat.zero_le _
    · exact hd _ _ _ _ _
  unfold Fm.parse
  repeat' split
  all_goals first | exact Nat.zero_le _ | exact hl _ _ _ _
/-- What holds of a reader ahead of a bit. -/
structure Inv (s : Cm.Rd) (R : List Bool) (k : Nat) : Prop where
  run : s.t = none → s.r = Sm.run (0, false) R
  calm : s.t = none → Sm.calm (0, false) R
  lenR : R.length ≤ k
  lenp : s.p.length ≤ k
  lenw : ∀ f n, s.w = some (f, n) → n ≤ k
  tail : ∀ t, s.t = some t → t < 10 ∧ ∃ f n, s.w = some (f, n) ∧ s.p.length = n + 15
theorem inv_new : Inv Cm.Rd.new [] 0 :=
  ⟨fun _ => rfl, fun _ k => (by rw [List.take_nil]; exact Nat.zero_le _), Nat.le_refl _, Nat.le_refl _, fun _ _ h => (by cases h), fun _ h => (by cases h)⟩
theorem inv_in {R : List Bool} {k : Nat} {b : Bool} {p : List Bool} {wn : Option (Cm.Fr × Nat)} (hc : Sm.calm (0, false) R) (h6 : (Sm.step (Sm.run (0, false) R) b).1 ≠ 6) (hR : R.length ≤ k) (hp : p.length ≤ k + 1) (hw : ∀ f n, wn = some (f, n) → n ≤ k + 1) :
    Inv ⟨Sm.step (Sm.run (0, false) R) b, p, wn, if Cm.lies p wn = true ∧ (Sm.step (Sm.run (0, false) R) b).1 ≠ 5 then some 0 else none⟩ (R ++ [b]) (k + 1) := by
  refine ⟨fun _ => (run_snoc R b).symm, fun _ => calm_snoc R hc b h6, by rw [List.length_append]; simp only [List.length_cons, List.length_nil]; omega, hp, hw, ?_⟩
  intro t ht
  dsimp only at ht ⊢
  split at ht
  · rename_i h
    cases ht
    refine ⟨by decide, ?_⟩
    cases wn with
    | none => cases h.1
    | some fn => exact ⟨fn.1, fn.2, rfl, of_decide_eq_true h.1⟩
  · cases ht
theorem tl_none (p : List Bool) (A : Prop) [Decidable A] : tailI (if Cm.lies p none = true ∧ A then some 0 else none) = -1 := by
  rw [if_neg (fun k => by cases k.1)]; rfl
theorem tl_some (p : List Bool) (f : Cm.Fr) (nn : Nat) (A : Prop) [Decidable A] : tailI (if Cm.lies p (some (f, nn)) = true ∧ A then some 0 else none) = if p.length = nn + 15 ∧ A then 0 else -1 := by
  by_cases h : p.length = nn + 15 ∧ A
  · rw [if_pos h, if_pos ⟨decide_eq_true h.1, h.2⟩]; rfl
  · rw [if_neg h, if_neg (fun k => h ⟨of_decide_eq_true k.1, k.2⟩)]; rfl
theorem bit_behind (q : Nat × Bool) (p : List Bool) (f : Cm.Fr) (nn t : Nat) (b : Bool) : Cm.bit ⟨q, p, some (f, nn), some t⟩ b = (behindCode (Cm.right p nn) t b, ⟨q, p, some (f, nn), some (t + 1)⟩) := by
  show Cm.behind _ t _ = _
  unfold Cm.behind behindCode
  dsimp only
  split
  · rfl
  · split
    · rfl
    · split
      · rfl
      · rfl
theorem behind_zero {ok : Bool} {t : Nat} {b : Bool} (h : behindCode ok t b = 0) (ht : t < 10) : t + 1 < 10 := by
  unfold behindCode at h
  split at h
  · cases h
  · split at h
    · cases h
    · split at h
      · cases h
      · omega
theorem next_bit (g : Nat) (S : ByteArray) (hS0 : S.size < 1000000) (s : Cm.Rd) (R : List Bool) (c : UInt8) (w : World) (hI : Inv s R S.size)
    (hrow : w.heap[g]? = some (.cells (rdc S s R) 58 (0, 0))) :
    Calls Tryd.prog 34 #[.pointer (some ⟨g, 0, none⟩), .int .u8 (c.toNat : Int)] w fun e w' => e = .returned (.int .i64 ((Cm.bit s (Bm.isOne c)).1 : Int)) ∧
      ((Cm.bit s (Bm.isOne c)).1 ≤ 1 → ∃ R', w'.heap[g]? = some (.cells (rdc (S ++ ByteArray.mk #[Bm.sign (Bm.isOne c)]) (Cm.bit s (Bm.isOne c)).2 R') 58 (0, 0)) ∧ ((Cm.bit s (Bm.isOne c)).1 = 0 → Inv (Cm.bit s (Bm.isOne c)).2 R' (S.size + 1))) ∧ But g w w' := by
  have hS : S.size ≤ 1000000 := Nat.le_of_lt hS0
  obtain ⟨q, p, wn, t⟩ := s
  have hR := hI.lenR
  have hp : p.length ≤ S.size := hI.lenp
  cases t with
  | some t =>
    obtain ⟨ht, f, nn, hw, hl⟩ := hI.tail t rfl
    dsimp only at hw hl
    subst hw
    rw [bit_behind]
    refine (next_behind g S hS q p f nn t R c w ht hl (by omega) hrow).mono ?_
    rintro e w' ⟨rfl, h1, h2⟩
    refine ⟨rfl, fun _ => ⟨R, h1, fun h0 => ⟨fun h => (by cases h), fun h => (by cases h), (by omega), ?_, fun f' n' h => ?_, fun t' h => ?_⟩⟩, h2⟩
    · show p.length ≤ _
      omega
    · have := hI.lenw f' n' h
      omega
    · cases h
      exact ⟨behind_zero h0 ht, f, nn, rfl, hl⟩
  | none =>
    have hq : q = _ := hI.run rfl
    subst hq
    have hc := hI.calm rfl
    have hlen : ∀ b : Bool, (p ++ [b]).length = p.length + 1 := fun b => by rw [List.length_append]; rfl
    by_cases h6 : (Sm.step (Sm.run (0, false) R) (Bm.isOne c)).1 = 6
    · have hb : Cm.bit ⟨Sm.run (0, false) R, p, wn, none⟩ (Bm.isOne c) = (20, ⟨Sm.step (Sm.run (0, false) R) (Bm.isOne c), p, wn, none⟩) := by
        show Cm.within _ _ = _
        unfold Cm.within
        rw [if_pos h6]
      rw [hb]
      cases wn with
      | none =>
        refine (next_six_none g S hS p R c w (by omega) hc h6 hrow).mono ?_
        rintro e w' ⟨rfl, h2⟩
        exact ⟨rfl, fun h => absurd h (by show ¬ (20 : Nat) ≤ 1; decide), h2⟩
      | some fn =>
        obtain ⟨⟨x, n, r, d⟩, nn⟩ := fn
        refine (next_six_some g S hS p R c w (by omega) nn x n r ⟨d.toArray⟩ hc h6 hrow).mono ?_
        rintro e w' ⟨rfl, h2⟩
        exact ⟨rfl, fun h => absurd h (by show ¬ (20 : Nat) ≤ 1; decide), h2⟩
    · by_cases h5 : (Sm.run (0, false) R).1 = 5
      · have hb : Cm.bit ⟨Sm.run (0, false) R, p, wn, none⟩ (Bm.isOne c) = (0, ⟨Sm.step (Sm.run (0, false) R) (Bm.isOne c), p, wn, if Cm.lies p wn = true ∧ (Sm.step (Sm.run (0, false) R) (Bm.isOne c)).1 ≠ 5 then some 0 else none⟩) := by
          show Cm.within _ _ = _
          unfold Cm.within
          rw [if_neg h6, if_pos h5]
        rw [hb]
        have hi : Inv _ (R ++ [Bm.isOne c]) (S.size + 1) := inv_in (p := p) (wn := wn) hc h6 hR (by omega) (fun f n h => by have := hI.lenw f n h; omega)
        cases wn with
        | none =>
          refine (next_laid_none g S hS p R c w (by omega) hc h5 h6 hrow).mono ?_
          rintro e w' ⟨rfl, h1, h2⟩
          refine ⟨rfl, fun _ => ⟨_, ?_, fun _ => hi⟩, h2⟩
          unfold rdc
          dsimp only
          rw [tl_none]
          exact h1
        | some fn =>
          obtain ⟨⟨x, n, r, d⟩, nn⟩ := fn
          have hn := hI.lenw _ nn rfl
          refine (next_laid_some g S hS p R c w (by omega) nn (by omega) x n r ⟨d.toArray⟩ hc h5 h6 hrow).mono ?_
          rintro e w' ⟨rfl, h1, h2⟩
          refine ⟨rfl, fun _ => ⟨_, ?_, fun _ => hi⟩, h2⟩
          unfold rdc
          dsimp only
          rw [tl_some]
          exact h1
      · cases wn with
        | some fn =>
          have hb : Cm.bit ⟨Sm.run (0, false) R, p, some fn, none⟩ (Bm.isOne c) = (0, ⟨Sm.step (Sm.run (0, false) R) (Bm.isOne c), p ++ [Bm.isOne c], some fn, if Cm.lies (p ++ [Bm.isOne c]) (some fn) = true ∧ (Sm.step (Sm.run (0, false) R) (Bm.isOne c)).1 ≠ 5 then some 0 else none⟩) := by
            show Cm.within _ _ = _
            unfold Cm.within
            rw [if_neg h6, if_neg h5]
            rfl
          rw [hb]
          have hi : Inv _ (R ++ [Bm.isOne c]) (S.size + 1) := inv_in (p := p ++ [Bm.isOne c]) (wn := some fn) hc h6 hR (by rw [hlen]; omega) (fun f n h => by have := hI.lenw f n h; omega)
          obtain ⟨⟨x, n, r, d⟩, nn⟩ := fn
          have hn := hI.lenw _ nn rfl
          refine (next_more_some g S hS p R c w (by omega) nn (by omega) x n r ⟨d.toArray⟩ hc (by omega) h5 h6 hrow).mono ?_
          rintro e w' ⟨rfl, h1, h2⟩
          refine ⟨rfl, fun _ => ⟨_, ?_, fun _ => hi⟩, h2⟩
          unfold rdc
          dsimp only
          rw [tl_some, hlen]
          exact h1
        | none =>
          by_cases h12 : (Fm.parse (p ++ [Bm.isOne c])).2.2 = 12
          · have hl : Cm.learn (p ++ [Bm.isOne c]) = (none, true) := by unfold Cm.learn; rw [if_pos h12]
            have hb : Cm.bit ⟨Sm.run (0, false) R, p, none, none⟩ (Bm.isOne c) = (12, ⟨Sm.step (Sm.run (0, false) R) (Bm.isOne c), p ++ [Bm.isOne c], none, none⟩) := by
              show Cm.within _ _ = _
              unfold Cm.within
              rw [if_neg h6, if_neg h5, hl]
              rfl
            rw [hb]
            refine (next_more_bad g S hS p R c w (by omega) hc (by omega) h5 h6 h12 hrow).mono ?_
            rintro e w' ⟨rfl, h2⟩
            exact ⟨rfl, fun h => absurd h (by show ¬ (12 : Nat) ≤ 1; decide), h2⟩
          · by_cases h0 : (Fm.parse (p ++ [Bm.isOne c])).2.2 = 0
            · have hl : Cm.learn (p ++ [Bm.isOne c]) = (some ((Fm.parse (p ++ [Bm.isOne c])).1, (Fm.parse (p ++ [Bm.isOne c])).2.1), false) := by unfold Cm.learn; rw [if_neg h12, if_pos h0]
              have hb : Cm.bit ⟨Sm.run (0, false) R, p, none, none⟩ (Bm.isOne c) = (0, ⟨Sm.step (Sm.run (0, false) R) (Bm.isOne c), p ++ [Bm.isOne c], some ((Fm.parse (p ++ [Bm.isOne c])).1, (Fm.parse (p ++ [Bm.isOne c])).2.1), if Cm.lies (p ++ [Bm.isOne c]) (some ((Fm.parse (p ++ [Bm.isOne c])).1, (Fm.parse (p ++ [Bm.isOne c])).2.1)) = true ∧ (Sm.step (Sm.run (0, false) R) (Bm.isOne c)).1 ≠ 5 then some 0 else none⟩) := by
                show Cm.within _ _ = _
                unfold Cm.within
                rw [if_neg h6, if_neg h5, hl]
                rfl
              rw [hb]
              have hle := parse_le (p ++ [Bm.isOne c])
              rw [hlen] at hle
              have hi : Inv _ (R ++ [Bm.isOne c]) (S.size + 1) := inv_in (p := p ++ [Bm.isOne c]) (wn := some ((Fm.parse (p ++ [Bm.isOne c])).1, (Fm.parse (p ++ [Bm.isOne c])).2.1)) hc h6 hR (by rw [hlen]; omega) (fun f n h => by cases h; omega)
              refine (next_more_learn g S hS p R c w (by omega) hc (by omega) h5 h6 h0 (by omega) hrow).mono ?_
              rintro e w' ⟨rfl, h1, h2⟩
              refine ⟨rfl, fun _ => ⟨_, ?_, fun _ => hi⟩, h2⟩
              unfold rdc
              dsimp only
              rw [tl_some, hlen]
              exact h1
            · have hl : Cm.learn (p ++ [Bm.isOne c]) = (none, false) := by unfold Cm.learn; rw [if_neg h12, if_neg h0]
              have hb : Cm.bit ⟨Sm.run (0, false) R, p, none, none⟩ (Bm.isOne c) = (0, ⟨Sm.step (Sm.run (0, false) R) (Bm.isOne c), p ++ [Bm.isOne c], none, if Cm.lies (p ++ [Bm.isOne c]) none = true ∧ (Sm.step (Sm.run (0, false) R) (Bm.isOne c)).1 ≠ 5 then some 0 else none⟩) := by
                show Cm.within _ _ = _
                unfold Cm.within
                rw [if_neg h6, if_neg h5, hl]
                rfl
              rw [hb]
              have hi : Inv _ (R ++ [Bm.isOne c]) (S.size + 1) := inv_in (p := p ++ [Bm.isOne c]) (wn := none) hc h6 hR (by rw [hlen]; omega) (fun f n h => by cases h)
              refine (next_more_none g S hS p R c w (by omega) hc (by omega) h5 h6 h12 h0 hrow).mono ?_
              rintro e w' ⟨rfl, h1, h2⟩
              refine ⟨rfl, fun _ => ⟨_, ?_, fun _ => hi⟩, h2⟩
              unfold rdc
              dsimp only
              rw [tl_none]
              exact h1
end Go.Proofs.YtaphdehhnnglgaaDoor
