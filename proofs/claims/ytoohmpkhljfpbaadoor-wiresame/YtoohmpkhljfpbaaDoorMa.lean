/- A node alone on the wire: its frame fails again and again, until it is off. -/
import Derived.Test.YtoohmpkhljfpbaaDoorMh
namespace Go.Proofs.YtoohmpkhljfpbaaDoor
open Go.RowKit
set_option linter.unusedVariables false
/-- Try t, ahead of bit j. -/
def Mm.al (f : Cm.Fr) (t j : Nat) : Mm.St :=
  if j = 0 then Mm.idS true f (if t = 0 then [] else (Mm.ackB f).take ((Mm.outB f).length - 9)) false (8 * (t : Int)) 0
  else if j ≤ (Mm.outB f).length - 9 then Mm.sdS f j (8 * (t : Int)) 0
  else if j < (Mm.outB f).length - 2 then ⟨.flag, (Mm.outB f).length - 2 - j, false, false, false, false, f, (Mm.ackB f).take ((Mm.outB f).length - 9), 8 * ((t : Int) + 1), 0⟩
  else if j = (Mm.outB f).length - 2 then ⟨.reco, 7, true, false, false, false, f, (Mm.ackB f).take ((Mm.outB f).length - 9), 8 * ((t : Int) + 1), 0⟩
  else if j < (Mm.outB f).length + 6 then ⟨.reco, (Mm.outB f).length + 6 - j, false, false, false, false, f, (Mm.ackB f).take ((Mm.outB f).length - 9), 8 * ((t : Int) + 1), 0⟩
  else ⟨.pause, (Mm.outB f).length + 9 - j, false, false, false, false, f, (Mm.ackB f).take ((Mm.outB f).length - 9), 8 * ((t : Int) + 1), 0⟩
/-- ahead of what is asked for -/
def Mm.pre (f : Cm.Fr) (t j : Nat) : Mm.St :=
  if j = 0 then (if t = 0 then Mm.idS false Cm.noF [] false 0 0 else Mm.idS false f ((Mm.ackB f).take ((Mm.outB f).length - 9)) false (8 * (t : Int)) 0) else Mm.al f t j
theorem Mm.pre_ask {f : Cm.Fr} (hf : Mm.isFr f = true) (t : Nat) : Mm.ask (Mm.pre f t 0) f = (0, Mm.al f t 0) := by
  unfold Mm.pre Mm.al
  rw [if_pos rfl, if_pos rfl]
  by_cases h : t = 0
  · subst h
    rw [if_pos rfl, if_pos rfl]
    unfold Mm.ask
    rw [if_neg (by intro k; cases k), if_neg (by rw [hf]; decide)]
    rfl
  · rw [if_neg h, if_neg h]
    unfold Mm.ask
    rw [if_neg (by intro k; cases k), if_neg (by rw [hf]; decide)]
    rfl
theorem Mm.pre_idle (f : Cm.Fr) (t : Nat) : decide ((Mm.pre f t 0).ph = .idle) = true ∧ Mm.busy (Mm.pre f t 0) = false := by
  unfold Mm.pre
  rw [if_pos rfl]
  split <;> exact ⟨rfl, rfl⟩
theorem Mm.pre_later (f : Cm.Fr) (t j : Nat) (hj : j ≠ 0) : Mm.pre f t j = Mm.al f t j ∧ decide ((Mm.al f t j).ph = .idle) = false := by
  refine ⟨by unfold Mm.pre; rw [if_neg hj], ?_⟩
  unfold Mm.al
  rw [if_neg hj]
  repeat' split
  all_goals rfl
theorem Mm.sent_bad (t : Nat) (ht : t < 32) : Km.sentS (8 * (t : Int)) 0 false = 8 * ((t : Int) + 1) := by
  unfold Km.sentS Km.sentV
  rw [Km.isC_true (by omega) (by omega) (by decide) (by decide), if_pos rfl, if_neg (by decide)]
  omega
/-- every bit but the one at which it fails -/
theorem Mm.al_next {f : Cm.Fr} (hf : Mm.isFr f = true) (t j : Nat) (ht : t < 32) (hj : j ≤ (Mm.outB f).length + 8) (h9 : j ≠ (Mm.outB f).length - 9) :
    Mm.sample (Mm.al f t j) (Mm.drive (Mm.al f t j)) = (if j = (Mm.outB f).length + 8 then Mm.pre f (t + 1) 0 else Mm.al f t (j + 1), if j = 0 then [⟨6, Cm.noF, 0⟩] else []) := by
  obtain ⟨hL, hL2⟩ := Mm.out_len hf
  by_cases h0 : j = 0
  · subst h0
    have hd : Mm.drive (Mm.al f t 0) = false := rfl
    rw [hd, if_neg (by omega), if_pos rfl]
    have e1 : Mm.al f t 0 = Mm.idS true f (if t = 0 then [] else (Mm.ackB f).take ((Mm.outB f).length - 9)) false (8 * (t : Int)) 0 := by unfold Mm.al; rw [if_pos rfl]
    have e2 : Mm.al f t (0 + 1) = Mm.sdS f 1 (8 * (t : Int)) 0 := by unfold Mm.al; rw [if_neg (by decide), if_pos (by omega)]
    rw [e1, e2, Mm.idS_start hf]
  · rw [if_neg h0]
    by_cases h1 : j < (Mm.outB f).length - 9
    · have e1 : Mm.al f t j = Mm.sdS f j (8 * (t : Int)) 0 := by unfold Mm.al; rw [if_neg h0, if_pos (by omega)]
      have e2 : Mm.al f t (j + 1) = Mm.sdS f (j + 1) (8 * (t : Int)) 0 := by unfold Mm.al; rw [if_neg (by omega), if_pos (by omega)]
      rw [if_neg (by omega), e2, e1, Mm.snd_drive (f := f) (m := Mm.sdS f j (8 * (t : Int)) 0) rfl rfl rfl rfl (by omega)]
      have hg := Mm.ack_get f j (by omega)
      rw [if_neg (by omega)] at hg
      rw [← hg, Mm.sdS_bit hf j _ _ (by omega)]
    · by_cases h2 : j < (Mm.outB f).length - 2
      · have e1 : Mm.al f t j = ⟨.flag, (Mm.outB f).length - 2 - j, false, false, false, false, f, (Mm.ackB f).take ((Mm.outB f).length - 9), 8 * ((t : Int) + 1), 0⟩ := by unfold Mm.al; rw [if_neg h0, if_neg (by omega), if_pos h2]
        rw [if_neg (by omega), e1]
        generalize Mm.drive _ = c
        show (if (Mm.outB f).length - 2 - j = 1 then _ else _) = _
        by_cases h3 : (Mm.outB f).length - 2 - j = 1
        · rw [if_pos h3]
          unfold Mm.al
          rw [if_neg (by omega), if_neg (by omega), if_neg (by omega), if_pos (by omega)]
        · rw [if_neg h3]
          unfold Mm.al
          rw [if_neg (by omega), if_neg (by omega), if_pos (by omega), show (Mm.outB f).length - 2 - (j + 1) = (Mm.outB f).length - 2 - j - 1 by omega]
      · by_cases h3 : j = (Mm.outB f).length - 2
        · have e1 : Mm.al f t j = ⟨.reco, 7, true, false, false, false, f, (Mm.ackB f).take ((Mm.outB f).length - 9), 8 * ((t : Int) + 1), 0⟩ := by unfold Mm.al; rw [if_neg h0, if_neg (by omega), if_neg h2, if_pos h3]
          have e2 : Mm.al f t (j + 1) = ⟨.reco, 7, false, false, false, false, f, (Mm.ackB f).take ((Mm.outB f).length - 9), 8 * ((t : Int) + 1), 0⟩ := by
            unfold Mm.al
            rw [if_neg (by omega), if_neg (by omega), if_neg (by omega), if_neg (by omega), if_pos (by omega), show (Mm.outB f).length + 6 - (j + 1) = 7 by omega]
          rw [if_neg (by omega), e1, e2]
          rfl
        · by_cases h4 : j < (Mm.outB f).length + 6
          · have e1 : Mm.al f t j = ⟨.reco, (Mm.outB f).length + 6 - j, false, false, false, false, f, (Mm.ackB f).take ((Mm.outB f).length - 9), 8 * ((t : Int) + 1), 0⟩ := by unfold Mm.al; rw [if_neg h0, if_neg (by omega), if_neg h2, if_neg h3, if_pos h4]
            rw [if_neg (by omega), e1]
            show (if (Mm.outB f).length + 6 - j = 1 then _ else _, _) = _
            by_cases h5 : (Mm.outB f).length + 6 - j = 1
            · rw [if_pos h5]
              unfold Mm.al
              rw [if_neg (by omega), if_neg (by omega), if_neg (by omega), if_neg (by omega), if_neg (by omega), show (Mm.outB f).length + 9 - (j + 1) = 3 by omega]
            · rw [if_neg h5]
              unfold Mm.al
              rw [if_neg (by omega), if_neg (by omega), if_neg (by omega), if_neg (by omega), if_pos (by omega), show (Mm.outB f).length + 6 - (j + 1) = (Mm.outB f).length + 6 - j - 1 by omega]
          · have e1 : Mm.al f t j = ⟨.pause, (Mm.outB f).length + 9 - j, false, false, false, false, f, (Mm.ackB f).take ((Mm.outB f).length - 9), 8 * ((t : Int) + 1), 0⟩ := by unfold Mm.al; rw [if_neg h0, if_neg (by omega), if_neg h2, if_neg h3, if_neg h4]
            rw [e1]
            show (if (Mm.outB f).length + 9 - j = 1 then _ else _) = _
            by_cases h5 : (Mm.outB f).length + 9 - j = 1
            · rw [if_pos h5, if_pos (by omega)]
              unfold Mm.pre
              rw [if_pos rfl, if_neg (Nat.succ_ne_zero t)]
              rfl
            · rw [if_neg h5, if_neg (by omega)]
              unfold Mm.al
              rw [if_neg (by omega), if_neg (by omega), if_neg (by omega), if_neg (by omega), if_neg (by omega), show (Mm.outB f).length + 9 - (j + 1) = (Mm.outB f).length + 9 - j - 1 by omega]
theorem Mm.out_nine {f : Cm.Fr} (hf : Mm.isFr f = true) : (Mm.outB f).getD ((Mm.outB f).length - 9) true = true := by
  obtain ⟨P, h1, _⟩ := Mm.out_form f
  rw [h1]
  simp only [List.length_append, Cm.length_ones]
  rw [List.getD_eq_getElem?_getD, List.getElem?_append_right (by omega), show P.length + 10 - 9 - P.length = 1 by omega]
  rfl
def Mm.offS (f : Cm.Fr) : Mm.St := ⟨.off, 6, false, false, false, false, f, (Mm.ackB f).take ((Mm.outB f).length - 9), 256, 0⟩
theorem Mm.al_nine {f : Cm.Fr} (hf : Mm.isFr f = true) (t : Nat) (ht : t < 32) : Mm.drive (Mm.al f t ((Mm.outB f).length - 9)) = true ∧
    Mm.sample (Mm.al f t ((Mm.outB f).length - 9)) true = if t = 31 then (Mm.offS f, [⟨4, f, 71⟩, ⟨7, Cm.noF, 0⟩]) else (Mm.al f t ((Mm.outB f).length - 8), [⟨4, f, 71⟩]) := by
  obtain ⟨hL, hL2⟩ := Mm.out_len hf
  have e1 : Mm.al f t ((Mm.outB f).length - 9) = Mm.sdS f ((Mm.outB f).length - 9) (8 * (t : Int)) 0 := by unfold Mm.al; rw [if_neg (by omega), if_pos (by omega)]
  rw [e1]
  refine ⟨by rw [Mm.snd_drive (f := f) (m := Mm.sdS f ((Mm.outB f).length - 9) (8 * (t : Int)) 0) rfl rfl rfl rfl (by omega), Mm.out_nine hf], ?_⟩
  rw [Mm.snd_noack hf (m := Mm.sdS f ((Mm.outB f).length - 9) (8 * (t : Int)) 0) rfl rfl rfl rfl]
  unfold Mm.bad
  dsimp only [Mm.sdS]
  simp only [Mm.sent_bad t ht]
  by_cases h : t = 31
  · subst h
    rw [if_pos rfl, if_pos (by decide)]
    rfl
  · rw [if_neg h, if_neg (by unfold Km.offC; simp; omega)]
    unfold Mm.al
    rw [if_neg (by omega), if_neg (by omega), if_pos (by omega), show (Mm.outB f).length - 2 - ((Mm.outB f).length - 8) = 6 by omega]
variable {At : World → Nat → (Nat → Prop) → Mm.St → Prop}
/-- A bit that tells two things. -/
theorem am_two (S : MacSpec At) {W : World} {P : Nat → Prop} {w : World} {p : Nat} {m : Mm.St} (c : UInt8) {m' : Mm.St} {v u : Mm.Ev} (hm : Mm.sample m (c != 48) = (m', [v, u])) (h : OwnM At P w p m) (hC : Ctx W P w) :
    Calls Tryd.prog 39 #[bptr p, .int .u8 (c.toNat : Int)] w fun e w' => ∃ g cap, e = .returned (.slice (some ⟨g, 0, none⟩) 2 cap) ∧ OwnM At P w' p m' ∧ Ctx W P w' ∧ Kept P w w' ∧ 2 ≤ cap ∧ cap ≤ maxLen ∧ g < w'.heap.size ∧
      w'.cell? ⟨g, 0, none⟩ = some (.int .i64 (v.k : Int)) ∧ w'.cell? ⟨g, 1, none⟩ = some (.bool v.f.1) ∧ w'.cell? ⟨g, 2, none⟩ = some (.int .u32 (v.f.2.1 : Int)) ∧ w'.cell? ⟨g, 3, none⟩ = some (.bool v.f.2.2.1) ∧ w'.cell? ⟨g, 4, none⟩ = some (.string ⟨v.f.2.2.2.toArray⟩) ∧ w'.cell? ⟨g, 5, none⟩ = some (.int .i64 (v.e : Int)) ∧ w'.cell? ⟨g, 6, none⟩ = some (.int .i64 (u.k : Int)) :=
  (am_sample S c hm h hC).mono fun e w' ⟨s, cap, he, hE, ho, hc, hb⟩ => by
    obtain ⟨g, hs, hB', hg, hl, hm, hk⟩ := hE.spot (by simp)
    subst hs
    exact ⟨g, cap, he, ho, hc, hb, hl, hm, hg, hk 0 _ rfl, hk 1 _ rfl, hk 2 _ rfl, hk 3 _ rfl, hk 4 _ rfl, hk 5 _ rfl, hk 6 _ rfl⟩
end Go.Proofs.YtoohmpkhljfpbaaDoor
