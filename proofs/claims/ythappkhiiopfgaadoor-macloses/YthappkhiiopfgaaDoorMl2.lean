/- Plain mathematics of a lost arbitration: three nodes, bit by bit; nothing of the program is in it. -/
import Derived.Test.YthappkhiiopfgaaDoorMl
namespace Go.Proofs.YthappkhiiopfgaaDoor.Mm
open Go.Proofs.YthappkhiiopfgaaDoor.Bm Go.Proofs.YthappkhiiopfgaaDoor.Fm Go.Proofs.YthappkhiiopfgaaDoor.Sm Go.Proofs.YthappkhiiopfgaaDoor.Cm
set_option linter.unusedVariables false
/-- All that is told at a bit. -/
def evs (F G : Fr) (j i : Nat) : List Ev := if i = 0 then [⟨6, noF, 0⟩, ⟨6, noF, 0⟩, ⟨6, noF, 0⟩] else if i = j then [⟨3, G, 0⟩] else if i + 2 = (outB F).length then [⟨2, F, 0⟩, ⟨2, F, 0⟩] else if i + 1 = (outB F).length then [⟨1, F, 0⟩] else []
/-- The one that wins. -/
def Win (F : Fr) (i : Nat) (m : St) : Prop := if i = 0 then m.ph = .idle ∧ m.has = true ∧ m.f = F else i < (outB F).length → m.ph = .inFr ∧ m.snd = true ∧ m.f = F ∧ m.bits = (ackB F).take i
/-- One that listens. -/
def Lis (F : Fr) (i : Nat) (m : St) : Prop := i < (outB F).length → m.ph = .inFr ∧ m.snd = false ∧ m.bits = (ackB F).take i ∧ m.tk = decide (i + 1 = (outB F).length)
/-- A third one. -/
def Thi (F : Fr) (i : Nat) (m : St) : Prop := if i = 0 then m.ph = .idle ∧ m.has = false else Lis F i m
/-- The one that loses at j. -/
def Los (F G : Fr) (j i : Nat) (m : St) : Prop := if i = 0 then m.ph = .idle ∧ m.has = true ∧ m.f = G else if i ≤ j then m.ph = .inFr ∧ m.snd = true ∧ m.f = G ∧ m.bits = (ackB F).take i ∧ m.tk = false else Lis F i m
def wire (F : Fr) (i : Nat) : Bool := (ackB F).getD i true
theorem wire_zero {F : Fr} (hF : isFr F = true) : wire F 0 = false := by
  have z := ack_zero hF
  unfold wire
  rw [List.getD_eq_getElem?_getD]
  have : (ackB F)[0]? = ((ackB F).take 1)[0]? := by rw [List.getElem?_take]; rfl
  rw [this, z]; rfl
theorem win_step {F : Fr} (hF : isFr F = true) {i : Nat} (hi : i < (outB F).length) {m : St} (h : Win F i m) : drive m = (if i = 0 then false else (outB F).getD i true) ∧ ∃ m', sample m (wire F i) = (m', if i = 0 then [⟨6, noF, 0⟩] else if i + 1 = (outB F).length then [⟨1, F, 0⟩] else []) ∧ Win F (i + 1) m' := by
  unfold Win at *
  by_cases h0 : i = 0
  · subst h0
    rw [if_pos rfl] at h
    obtain ⟨a, b, c⟩ := h
    rw [wire_zero hF, idle_zero a, idle_drive a, b]
    refine ⟨rfl, _, rfl, ?_⟩
    rw [if_neg (by omega)]
    intro _
    exact ⟨rfl, rfl, c, (ack_zero hF).symm⟩
  · rw [if_neg h0] at h
    obtain ⟨a, b, c, d⟩ := h hi
    rw [if_neg h0, if_neg h0]
    refine ⟨snd_drive a b c d hi, ?_⟩
    unfold wire
    rw [snd_bit hF a b c d hi]
    by_cases h1 : i + 1 = (outB F).length
    · rw [if_pos h1, if_pos h1]
      refine ⟨_, rfl, ?_⟩
      rw [if_neg (by omega)]
      intro k; omega
    · rw [if_neg h1, if_neg h1]
      refine ⟨_, rfl, ?_⟩
      rw [if_neg (by omega)]
      intro k
      exact ⟨a, b, c, rfl⟩
theorem lis_step {F : Fr} (hF : isFr F = true) {i : Nat} (h0 : i ≠ 0) (hi : i < (outB F).length) {m : St} (h : Lis F i m) : drive m = !decide (i + 9 = (outB F).length) ∧ ∃ m', sample m (wire F i) = (m', if i + 2 = (outB F).length then [⟨2, F, 0⟩] else []) ∧ Lis F (i + 1) m' := by
  have hL := (out_len hF).1
  obtain ⟨a, b, c, d⟩ := h hi
  refine ⟨?_, ?_⟩
  · rw [lis_drive hF a b c hi]
    congr 1
    apply decide_eq_decide.2
    omega
  · unfold wire
    by_cases h1 : i + 1 = (outB F).length
    · rw [lis_end a b (by rw [d]; exact decide_eq_true h1), if_neg (by omega)]
      refine ⟨_, rfl, fun k => by omega⟩
    · rw [lis_bit hF a b (by rw [d]; exact decide_eq_false h1) c (by omega)]
      by_cases h2 : i + 2 = (outB F).length
      · rw [if_pos h2, if_pos h2]
        refine ⟨_, rfl, fun k => ⟨a, b, rfl, ?_⟩⟩
        exact (decide_eq_true (by omega)).symm
      · rw [if_neg h2, if_neg h2]
        refine ⟨_, rfl, fun k => ⟨a, b, rfl, ?_⟩⟩
        show m.tk = _
        rw [d, decide_eq_false h1, decide_eq_false (by omega)]
theorem thi_step {F : Fr} (hF : isFr F = true) {i : Nat} (hi : i < (outB F).length) {m : St} (h : Thi F i m) : drive m = (if i = 0 then true else !decide (i + 9 = (outB F).length)) ∧ ∃ m', sample m (wire F i) = (m', if i = 0 then [⟨6, noF, 0⟩] else if i + 2 = (outB F).length then [⟨2, F, 0⟩] else []) ∧ Thi F (i + 1) m' := by
  unfold Thi at *
  have hL := (out_len hF).1
  by_cases h0 : i = 0
  · subst h0
    rw [if_pos rfl] at h
    obtain ⟨a, b⟩ := h
    rw [wire_zero hF, idle_zero a, idle_drive a, b]
    refine ⟨rfl, _, rfl, ?_⟩
    rw [if_neg (by omega)]
    intro _
    exact ⟨rfl, rfl, (ack_zero hF).symm, (decide_eq_false (by omega)).symm⟩
  · rw [if_neg h0] at h
    rw [if_neg h0, if_neg h0]
    obtain ⟨a, m', b, c⟩ := lis_step hF h0 hi h
    exact ⟨a, m', b, by rw [if_neg (by omega)]; exact c⟩
theorem los_step {F G : Fr} {j : Nat} (hF : isFr F = true) (hG : isFr G = true) (j1 : 1 ≤ j) (jG : j + 1 ≤ arbL G) (jF : j + 1 ≤ arbL F) (ht : ∀ i, i ≤ j → (ackB F).take i = (ackB G).take i) (dF : (outB F).getD j true = false) (dG : (outB G).getD j true = true) {i : Nat} (hi : i < (outB F).length) {m : St} (h : Los F G j i m) : (drive m = if i = 0 then false else if i < j then (outB F).getD i true else if i = j then true else !decide (i + 9 = (outB F).length)) ∧ ∃ m', sample m (wire F i) = (m', if i = 0 then [⟨6, noF, 0⟩] else if i = j then [⟨3, G, 0⟩] else if i + 2 = (outB F).length then [⟨2, F, 0⟩] else []) ∧ Los F G j (i + 1) m' := by
  unfold Los at *
  have hL := (out_len hF).1
  have hLG := (out_len hG).1
  have aF := arb_le F
  have aG := arb_le G
  by_cases h0 : i = 0
  · subst h0
    rw [if_pos rfl] at h
    obtain ⟨a, b, c⟩ := h
    rw [wire_zero hF, idle_zero a, idle_drive a, b]
    refine ⟨rfl, _, rfl, ?_⟩
    rw [if_neg (by omega), if_pos (by omega)]
    exact ⟨rfl, rfl, c, (ack_zero hF).symm, rfl⟩
  · rw [if_neg h0] at h
    rw [if_neg h0, if_neg h0]
    by_cases hij : i ≤ j
    · rw [if_pos hij] at h
      obtain ⟨a, b, c, d, e⟩ := h
      have d' : m.bits = (ackB G).take i := by rw [d]; exact ht i hij
      have hiG : i < (outB G).length := by omega
      by_cases hlt : i < j
      · rw [if_pos hlt, if_neg (by omega), if_neg (by omega)]
        have hw : (outB F).getD i true = (outB G).getD i true ∧ wire F i = (ackB G).getD i true := by
          have hs := ht (i + 1) (by omega)
          have e1 : (ackB F).getD i true = (ackB G).getD i true := by
            have := congrArg (fun l => l.getD i true) hs
            simp only [List.getD_eq_getElem?_getD, List.getElem?_take] at this
            simpa [List.getD_eq_getElem?_getD] using this
          refine ⟨?_, e1⟩
          rw [ack_get F i hi, ack_get G i hiG, if_neg (by omega), if_neg (by omega)] at e1
          exact e1
        refine ⟨by rw [hw.1]; exact snd_drive a b c d' hiG, ?_⟩
        rw [hw.2, snd_bit hG a b c d' hiG, if_neg (by omega)]
        refine ⟨_, rfl, ?_⟩
        rw [if_neg (by omega), if_pos (by omega)]
        exact ⟨a, b, c, (ht (i + 1) (by omega)).symm, e⟩
      · obtain rfl : i = j := by omega
        rw [if_neg (by omega), if_pos rfl, if_pos rfl]
        have hbl : m.bits.length = i := by rw [d]; exact take_len F i (by omega)
        refine ⟨by rw [← dG]; exact snd_drive a b c d' hiG, ?_⟩
        have hw : wire F i = false := by unfold wire; rw [ack_get F i hi, if_neg (by omega)]; exact dF
        rw [hw, snd_lost a b c (by omega) (by rw [hbl]; exact dG)]
        have hh : hearing { m with snd := false } false = sample { m with snd := false } ((ackB F).getD i true) := by
          have : (ackB F).getD i true = false := hw
          rw [this]
          show _ = sample _ _
          unfold sample
          dsimp only
          rw [a]
          rfl
        rw [hh, lis_bit hF (m := { m with snd := false }) a rfl e d (by omega), if_neg (by omega)]
        refine ⟨_, rfl, ?_⟩
        rw [if_neg (by omega), if_neg (by omega)]
        intro k
        refine ⟨a, rfl, rfl, ?_⟩
        show m.tk = _
        rw [e]
        exact (decide_eq_false (by omega)).symm
    · rw [if_neg hij] at h
      rw [if_neg (by omega), if_neg (by omega), if_neg (by omega)]
      obtain ⟨a, m', b, c⟩ := lis_step hF h0 hi h
      exact ⟨a, m', b, by rw [if_neg (by omega), if_neg (by omega)]; exact c⟩
/-- What all three see. -/
theorem all_step {F G : Fr} {j : Nat} (hF : isFr F = true) (hG : isFr G = true) (j1 : 1 ≤ j) (jG : j + 1 ≤ arbL G) (jF : j + 1 ≤ arbL F) (ht : ∀ i, i ≤ j → (ackB F).take i = (ackB G).take i) (dF : (outB F).getD j true = false) (dG : (outB G).getD j true = true) {i : Nat} (hi : i < (outB F).length) {a b c : St} (ha : Win F i a) (hb : Los F G j i b) (hc : Thi F i c) :
    (drive a && drive b && drive c) = wire F i ∧ ∃ a' b' c' x y z, sample a (wire F i) = (a', x) ∧ sample b (wire F i) = (b', y) ∧ sample c (wire F i) = (c', z) ∧ Win F (i + 1) a' ∧ Los F G j (i + 1) b' ∧ Thi F (i + 1) c' ∧ x ++ y ++ z = evs F G j i ∧ y ++ x ++ z = evs F G j i := by
  have hL := (out_len hF).1
  have aF := arb_le F
  obtain ⟨d1, a', s1, w1⟩ := win_step hF hi ha
  obtain ⟨d2, b', s2, w2⟩ := los_step hF hG j1 jG jF ht dF dG hi hb
  obtain ⟨d3, c', s3, w3⟩ := thi_step hF hi hc
  refine ⟨?_, a', b', c', _, _, _, s1, s2, s3, w1, w2, w3, ?_, ?_⟩
  · rw [d1, d2, d3]
    unfold wire
    by_cases h0 : i = 0
    · subst h0; exact (wire_zero hF).symm
    · rw [if_neg h0, if_neg h0, if_neg h0, ack_get F i hi]
      by_cases h1 : i < j
      · rw [if_pos h1, if_neg (by omega), decide_eq_false (by omega)]
        cases (outB F).getD i true <;> rfl
      · rw [if_neg h1]
        by_cases h2 : i = j
        · subst h2
          rw [if_pos rfl, if_neg (by omega), dF]; rfl
        · rw [if_neg h2]
          by_cases h9 : i + 9 = (outB F).length
          · rw [if_pos (by omega), decide_eq_true h9]; simp
          · rw [if_neg (by omega), decide_eq_false h9]; simp
  · unfold evs
    by_cases h0 : i = 0
    · subst h0; rfl
    · simp only [if_neg h0]
      by_cases h1 : i = j
      · subst h1
        simp only [if_true]
        rw [if_neg (by omega), if_neg (by omega)]; rfl
      · simp only [if_neg h1]
        by_cases h2 : i + 2 = (outB F).length
        · rw [if_pos h2, if_pos h2, if_neg (by omega)]; rfl
        · rw [if_neg h2, if_neg h2]; simp
  · unfold evs
    by_cases h0 : i = 0
    · subst h0; rfl
    · simp only [if_neg h0]
      by_cases h1 : i = j
      · subst h1
        simp only [if_true]
        rw [if_neg (by omega), if_neg (by omega)]; rfl
      · simp only [if_neg h1]
        by_cases h2 : i + 2 = (outB F).length
        · rw [if_pos h2, if_pos h2, if_neg (by omega)]; rfl
        · rw [if_neg h2, if_neg h2]; simp
end Go.Proofs.YthappkhiiopfgaaDoor.Mm
