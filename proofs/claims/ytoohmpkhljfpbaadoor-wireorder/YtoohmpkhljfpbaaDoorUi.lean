/- Plain mathematics of a lost arbitration: where two frames' bits part; nothing of the program is in it. -/
import Derived.Test.YtoohmpkhljfpbaaDoorUe
import Derived.Test.YtoohmpkhljfpbaaDoorU1
import Derived.Test.YtoohmpkhljfpbaaDoorMh
namespace Go.Proofs.YtoohmpkhljfpbaaDoor.Mm
open Go.Proofs.YtoohmpkhljfpbaaDoor.Bm Go.Proofs.YtoohmpkhljfpbaaDoor.Fm Go.Proofs.YtoohmpkhljfpbaaDoor.Sm Go.Proofs.YtoohmpkhljfpbaaDoor.Cm
set_option linter.unusedVariables false
theorem cmp_part (x : List Bool) : ∀ y, cmpB x y = -1 → ∃ p x' y', x = p ++ false :: x' ∧ y = p ++ true :: y' := by
  induction x with
  | nil => intro y h; cases h
  | cons a s ih =>
    intro y h
    cases y with
    | nil => cases h
    | cons b t =>
      unfold cmpB at h
      by_cases e : a = b
      · rw [if_pos e] at h
        obtain ⟨p, x', y', rfl, rfl⟩ := ih t h
        subst e
        exact ⟨a :: p, x', y', rfl, rfl⟩
      · rw [if_neg e] at h
        cases a
        · cases b
          · exact absurd rfl e
          · exact ⟨[], s, t, rfl, rfl⟩
        · simp at h
theorem stB_first (r : Nat × Bool) (c : Bool) (t : List Bool) : ∃ u, stB r [] (c :: t) = c :: u := by
  unfold stB
  split
  · rw [stB_out]; exact ⟨_, rfl⟩
  · rw [stB_out]; exact ⟨_, rfl⟩
theorem out_arb (f : Fr) : ∃ m, outB f = stuff (arb0 f.1 f.2.1 f.2.2.1) ++ m := by
  unfold outB enc0 plainOf body0 stuff
  rw [List.append_assoc, stB_append, List.append_assoc]
  exact ⟨_, rfl⟩
/-- Where the bits of two frames part on the wire. -/
theorem out_part {f g : Fr} (h : cmpB (arb0 f.1 f.2.1 f.2.2.1) (arb0 g.1 g.2.1 g.2.2.1) = -1) : ∃ P u v, outB f = P ++ false :: u ∧ outB g = P ++ true :: v ∧ P.length + 1 ≤ arbL g ∧ P.length + 1 ≤ arbL f := by
  obtain ⟨p, x', y', hx, hy⟩ := cmp_part _ _ h
  obtain ⟨mf, hf⟩ := out_arb f
  obtain ⟨mg, hg⟩ := out_arb g
  obtain ⟨u, hu⟩ := stB_first (stS (0, false) p) false x'
  obtain ⟨v, hv⟩ := stB_first (stS (0, false) p) true y'
  have ef : stuff (arb0 f.1 f.2.1 f.2.2.1) = stuff p ++ false :: u := by rw [hx]; unfold stuff; rw [stB_append, hu]
  have eg : stuff (arb0 g.1 g.2.1 g.2.2.1) = stuff p ++ true :: v := by rw [hy]; unfold stuff; rw [stB_append, hv]
  refine ⟨stuff p, u ++ mf, v ++ mg, by rw [hf, ef, List.append_assoc]; rfl, by rw [hg, eg, List.append_assoc]; rfl, ?_, ?_⟩
  · unfold arbL; rw [eg, List.length_append, List.length_cons]; omega
  · unfold arbL; rw [ef, List.length_append, List.length_cons]; omega
theorem ack_take (f : Fr) (j : Nat) (hj : j ≤ (outB f).length - 10) : (ackB f).take j = (outB f).take j := by
  obtain ⟨P, h1, h2⟩ := out_form f
  have hl : (outB f).length = P.length + 10 := by rw [h1, List.length_append, length_ones]
  rw [h1, h2, List.take_append_of_le_length (by omega), List.take_append_of_le_length (by omega)]
/-- The place at which the second one loses. -/
theorem lose_at {f g : Fr} (hg : isFr g = true) (h : cmpB (arb0 f.1 f.2.1 f.2.2.1) (arb0 g.1 g.2.1 g.2.2.1) = -1) :
    ∃ j, 1 ≤ j ∧ j + 1 ≤ arbL g ∧ j + 1 ≤ arbL f ∧ (∀ i, i ≤ j → (ackB f).take i = (ackB g).take i) ∧ (outB f).getD j true = false ∧ (outB g).getD j true = true := by
  obtain ⟨P, u, v, h1, h2, h3, h4⟩ := out_part h
  have hp : 1 ≤ P.length := by
    cases P with
    | nil =>
      exfalso
      have z := ack_zero hg
      rw [ack_take g 1 (by have := out_len hg; omega), h2] at z
      simp at z
    | cons a P => simp
  have a1 := arb_le f
  have a2 := arb_le g
  refine ⟨P.length, hp, h3, h4, fun i hi => ?_, ?_, ?_⟩
  · rw [ack_take f i (by omega), ack_take g i (by omega), h1, h2, List.take_append_of_le_length hi, List.take_append_of_le_length hi]
  · rw [h1, List.getD_eq_getElem?_getD, List.getElem?_append_right (Nat.le_refl _), Nat.sub_self]; rfl
  · rw [h2, List.getD_eq_getElem?_getD, List.getElem?_append_right (Nat.le_refl _), Nat.sub_self]; rfl
/-- Two frames that are not of one identifier and kind: one of them wins. -/
theorem one_wins {f g : Fr} (hf : isFr f = true) (hg : isFr g = true) (hne : ¬ (f.2.1 = g.2.1 ∧ f.1 = g.1 ∧ f.2.2.1 = g.2.2.1)) :
    cmpB (arb0 f.1 f.2.1 f.2.2.1) (arb0 g.1 g.2.1 g.2.2.1) = -1 ∨ cmpB (arb0 g.1 g.2.1 g.2.2.1) (arb0 f.1 f.2.1 f.2.2.1) = -1 := by
  have tf : f.2.1 < top f.1 := by
    have := hf; unfold isFr isF at this; simp at this; exact this.1
  have tg : g.2.1 < top g.1 := by
    have := hg; unfold isFr isF at this; simp at this; exact this.1
  have hk : key f.1 f.2.1 f.2.2.1 ≠ key g.1 g.2.1 g.2.2.1 := fun e => by
    obtain ⟨a, b, c⟩ := key_inj _ _ _ _ _ _ tf tg e
    exact hne ⟨b, a, c⟩
  rw [cmp_key _ _ _ _ _ _ tf tg, cmp_key _ _ _ _ _ _ tg tf]
  rcases Nat.lt_or_gt_of_ne hk with k | k
  · left; exact sgn_lt k
  · right; exact sgn_lt k
end Go.Proofs.YtoohmpkhljfpbaaDoor.Mm
/- Plain mathematics of a lost arbitration: three nodes, bit by bit; nothing of the program is in it. -/
namespace Go.Proofs.YtoohmpkhljfpbaaDoor.Mm
open Go.Proofs.YtoohmpkhljfpbaaDoor.Bm Go.Proofs.YtoohmpkhljfpbaaDoor.Fm Go.Proofs.YtoohmpkhljfpbaaDoor.Sm Go.Proofs.YtoohmpkhljfpbaaDoor.Cm
set_option linter.unusedVariables false
/-- All that is told at a bit. -/
def evs (F G : Fr) (j i : Nat) : List Ev := if i = 0 then [⟨6, noF, 0⟩, ⟨6, noF, 0⟩, ⟨6, noF, 0⟩] else if i = j then [⟨3, G, 0⟩] else if i + 2 = (outB F).length then [⟨2, F, 0⟩, ⟨2, F, 0⟩] else if i + 1 = (outB F).length then [⟨1, F, 0⟩] else []
/-- The one that wins. -/
def Win (F : Fr) (i : Nat) (m : St) : Prop := if i = 0 then m.ph = .idle ∧ m.has = true ∧ m.f = F else i < (outB F).length → m.ph = .inFr ∧ m.snd = true ∧ m.f = F ∧ m.bits = (ackB F).take i
/-- One that listens. -/
def Lis (F : Fr) (i : Nat) (m : St) : Prop := i < (outB F).length → m.ph = .inFr ∧ m.snd = false ∧ m.bits = (ackB F).take i ∧ m.tk = decide (i + 1 = (outB F).length)
/-- A third one. -/
def Thi (F : Fr) (i : Nat) (m : St) : Prop := if i = 0 then m.ph = .idle ∧ m.has = false else Lis F i m
/-- The one that loses at j. -/
def Los (F G : Fr) (j i : Nat) (m : St) : Prop := if i = 0 then m.ph = .idle ∧ m.has = true ∧ m.f = G else if i ≤ j then m.ph = .inFr ∧ m.snd = true ∧ m.f = G ∧ m.bits = (ackB F).take i ∧ m.tk = false else Lis F i m
def wire (F : Fr) (i : Nat) : Bool := (ackB F).getD i true
theorem wire_zero {F : Fr} (hF : isFr F = true) : wire F 0 = false := by
  have z := ack_zero hF
  unfold wire
  rw [List.getD_eq_getElem?_getD]
  have : (ackB F)[0]? = ((ackB F).take 1)[0]? := by rw [List.getElem?_take]; rfl
  rw [this, z]; rfl
theorem win_step {F : Fr} (hF : isFr F = true) {i : Nat} (hi : i < (outB F).length) {m : St} (h : Win F i m) : drive m = (if i = 0 then false else (outB F).getD i true) ∧ ∃ m', sample m (wire F i) = (m', if i = 0 then [⟨6, noF, 0⟩] else if i + 1 = (outB F).length then [⟨1, F, 0⟩] else []) ∧ Win F (i + 1) m' := by
  unfold Win at *
  by_cases h0 : i = 0
  · subst h0
    rw [if_pos rfl] at h
    obtain ⟨a, b, c⟩ := h
    rw [wire_zero hF, idle_zero a, idle_drive a, b]
    refine ⟨rfl, _, rfl, ?_⟩
    rw [if_neg (by omega)]
    intro _
    exact ⟨rfl, rfl, c, (ack_zero hF).symm⟩
  · rw [if_neg h0] at h
    obtain ⟨a, b, c, d⟩ := h hi
    rw [if_neg h0, if_neg h0]
    refine ⟨snd_drive a b c d hi, ?_⟩
    unfold wire
    rw [snd_bit hF a b c d hi]
    by_cases h1 : i + 1 = (outB F).length
    · rw [if_pos h1, if_pos h1]
      refine ⟨_, rfl, ?_⟩
      rw [if_neg (by omega)]
      intro k; omega
    · rw [if_neg h1, if_neg h1]
      refine ⟨_, rfl, ?_⟩
      rw [if_neg (by omega)]
      intro k
      exact ⟨a, b, c, rfl⟩
theorem lis_step {F : Fr} (hF : isFr F = true) {i : Nat} (h0 : i ≠ 0) (hi : i < (outB F).length) {m : St} (h : Lis F i m) : drive m = !decide (i + 9 = (outB F).length) ∧ ∃ m', sample m (wire F i) = (m', if i + 2 = (outB F).length then [⟨2, F, 0⟩] else []) ∧ Lis F (i + 1) m' := by
  have hL := (out_len hF).1
  obtain ⟨a, b, c, d⟩ := h hi
  refine ⟨?_, ?_⟩
  · rw [lis_drive hF a b c hi]
    congr 1
    apply decide_eq_decide.2
    omega
  · unfold wire
    by_cases h1 : i + 1 = (outB F).length
    · rw [lis_end a b (by rw [d]; exact decide_eq_true h1), if_neg (by omega)]
      refine ⟨_, rfl, fun k => by omega⟩
    · rw [lis_bit hF a b (by rw [d]; exact decide_eq_false h1) c (by omega)]
      by_cases h2 : i + 2 = (outB F).length
      · rw [if_pos h2, if_pos h2]
        refine ⟨_, rfl, fun k => ⟨a, b, rfl, ?_⟩⟩
        exact (decide_eq_true (by omega)).symm
      · rw [if_neg h2, if_neg h2]
        refine ⟨_, rfl, fun k => ⟨a, b, rfl, ?_⟩⟩
        show m.tk = _
        rw [d, decide_eq_false h1, decide_eq_false (by omega)]
theorem thi_step {F : Fr} (hF : isFr F = true) {i : Nat} (hi : i < (outB F).length) {m : St} (h : Thi F i m) : drive m = (if i = 0 then true else !decide (i + 9 = (outB F).length)) ∧ ∃ m', sample m (wire F i) = (m', if i = 0 then [⟨6, noF, 0⟩] else if i + 2 = (outB F).length then [⟨2, F, 0⟩] else []) ∧ Thi F (i + 1) m' := by
  unfold Thi at *
  have hL := (out_len hF).1
  by_cases h0 : i = 0
  · subst h0
    rw [if_pos rfl] at h
    obtain ⟨a, b⟩ := h
    rw [wire_zero hF, idle_zero a, idle_drive a, b]
    refine ⟨rfl, _, rfl, ?_⟩
    rw [if_neg (by omega)]
    intro _
    exact ⟨rfl, rfl, (ack_zero hF).symm, (decide_eq_false (by omega)).symm⟩
  · rw [if_neg h0] at h
    rw [if_neg h0, if_neg h0]
    obtain ⟨a, m', b, c⟩ := lis_step hF h0 hi h
    exact ⟨a, m', b, by rw [if_neg (by omega)]; exact c⟩
theorem los_step {F G : Fr} {j : Nat} (hF : isFr F = true) (hG : isFr G = true) (j1 : 1 ≤ j) (jG : j + 1 ≤ arbL G) (jF : j + 1 ≤ arbL F) (ht : ∀ i, i ≤ j → (ackB F).take i = (ackB G).take i) (dF : (outB F).getD j true = false) (dG : (outB G).getD j true = true) {i : Nat} (hi : i < (outB F).length) {m : St} (h : Los F G j i m) : (drive m = if i = 0 then false else if i < j then (outB F).getD i true else if i = j then true else !decide (i + 9 = (outB F).length)) ∧ ∃ m', sample m (wire F i) = (m', if i = 0 then [⟨6, noF, 0⟩] else if i = j then [⟨3, G, 0⟩] else if i + 2 = (outB F).length then [⟨2, F, 0⟩] else []) ∧ Los F G j (i + 1) m' := by
  unfold Los at *
  have hL := (out_len hF).1
  have hLG := (out_len hG).1
  have aF := arb_le F
  have aG := arb_le G
  by_cases h0 : i = 0
  · subst h0
    rw [if_pos rfl] at h
    obtain ⟨a, b, c⟩ := h
    rw [wire_zero hF, idle_zero a, idle_drive a, b]
    refine ⟨rfl, _, rfl, ?_⟩
    rw [if_neg (by omega), if_pos (by omega)]
    exact ⟨rfl, rfl, c, (ack_zero hF).symm, rfl⟩
  · rw [if_neg h0] at h
    rw [if_neg h0, if_neg h0]
    by_cases hij : i ≤ j
    · rw [if_pos hij] at h
      obtain ⟨a, b, c, d, e⟩ := h
      have d' : m.bits = (ackB G).take i := by rw [d]; exact ht i hij
      have hiG : i < (outB G).length := by omega
      by_cases hlt : i < j
      · rw [if_pos hlt, if_neg (by omega), if_neg (by omega)]
        have hw : (outB F).getD i true = (outB G).getD i true ∧ wire F i = (ackB G).getD i true := by
          have hs := ht (i + 1) (by omega)
          have e1 : (ackB F).getD i true = (ackB G).getD i true := by
            have := congrArg (fun l => l.getD i true) hs
            simp only [List.getD_eq_getElem?_getD, List.getElem?_take] at this
            simpa [List.getD_eq_getElem?_getD] using this
          refine ⟨?_, e1⟩
          rw [ack_get F i hi, ack_get G i hiG, if_neg (by omega), if_neg (by omega)] at e1
          exact e1
        refine ⟨by rw [hw.1]; exact snd_drive a b c d' hiG, ?_⟩
        rw [hw.2, snd_bit hG a b c d' hiG, if_neg (by omega)]
        refine ⟨_, rfl, ?_⟩
        rw [if_neg (by omega), if_pos (by omega)]
        exact ⟨a, b, c, (ht (i + 1) (by omega)).symm, e⟩
      · obtain rfl : i = j := by omega
        rw [if_neg (by omega), if_pos rfl, if_pos rfl]
        have hbl : m.bits.length = i := by rw [d]; exact take_len F i (by omega)
        refine ⟨by rw [← dG]; exact snd_drive a b c d' hiG, ?_⟩
        have hw : wire F i = false := by unfold wire; rw [ack_get F i hi, if_neg (by omega)]; exact dF
        rw [hw, snd_lost a b c (by omega) (by rw [hbl]; exact dG)]
        have hh : hearing { m with snd := false } false = sample { m with snd := false } ((ackB F).getD i true) := by
          have : (ackB F).getD i true = false := hw
          rw [this]
          show _ = sample _ _
          unfold sample
          dsimp only
          rw [a]
          rfl
        rw [hh, lis_bit hF (m := { m with snd := false }) a rfl e d (by omega), if_neg (by omega)]
        refine ⟨_, rfl, ?_⟩
        rw [if_neg (by omega), if_neg (by omega)]
        intro k
        refine ⟨a, rfl, rfl, ?_⟩
        show m.tk = _
        rw [e]
        exact (decide_eq_false (by omega)).symm
    · rw [if_neg hij] at h
      rw [if_neg (by omega), if_neg (by omega), if_neg (by omega)]
      obtain ⟨a, m', b, c⟩ := lis_step hF h0 hi h
      exact ⟨a, m', b, by rw [if_neg (by omega), if_neg (by omega)]; exact c⟩
/-- What all three see. -/
theorem all_step {F G : Fr} {j : Nat} (hF : isFr F = true) (hG : isFr G = true) (j1 : 1 ≤ j) (jG : j + 1 ≤ arbL G) (jF : j + 1 ≤ arbL F) (ht : ∀ i, i ≤ j → (ackB F).take i = (ackB G).take i) (dF : (outB F).getD j true = false) (dG : (outB G).getD j true = true) {i : Nat} (hi : i < (outB F).length) {a b c : St} (ha : Win F i a) (hb : Los F G j i b) (hc : Thi F i c) :
    (drive a && drive b && drive c) = wire F i ∧ ∃ a' b' c' x y z, sample a (wire F i) = (a', x) ∧ sample b (wire F i) = (b', y) ∧ sample c (wire F i) = (c', z) ∧ Win F (i + 1) a' ∧ Los F G j (i + 1) b' ∧ Thi F (i + 1) c' ∧ x ++ y ++ z = evs F G j i ∧ y ++ x ++ z = evs F G j i := by
  have hL := (out_len hF).1
  have aF := arb_le F
  obtain ⟨d1, a', s1, w1⟩ := win_step hF hi ha
  obtain ⟨d2, b', s2, w2⟩ := los_step hF hG j1 jG jF ht dF dG hi hb
  obtain ⟨d3, c', s3, w3⟩ := thi_step hF hi hc
  refine ⟨?_, a', b', c', _, _, _, s1, s2, s3, w1, w2, w3, ?_, ?_⟩
  · rw [d1, d2, d3]
    unfold wire
    by_cases h0 : i = 0
    · subst h0; exact (wire_zero hF).symm
    · rw [if_neg h0, if_neg h0, if_neg h0, ack_get F i hi]
      by_cases h1 : i < j
      · rw [if_pos h1, if_neg (by omega), decide_eq_false (by omega)]
        cases (outB F).getD i true <;> rfl
      · rw [if_neg h1]
        by_cases h2 : i = j
        · subst h2
          rw [if_pos rfl, if_neg (by omega), dF]; rfl
        · rw [if_neg h2]
          by_cases h9 : i + 9 = (outB F).length
          · rw [if_pos (by omega), decide_eq_true h9]; simp
          · rw [if_neg (by omega), decide_eq_false h9]; simp
  · unfold evs
    by_cases h0 : i = 0
    · subst h0; rfl
    · simp only [if_neg h0]
      by_cases h1 : i = j
      · subst h1
        simp only [if_true]
        rw [if_neg (by omega), if_neg (by omega)]; rfl
      · simp only [if_neg h1]
        by_cases h2 : i + 2 = (outB F).length
        · rw [if_pos h2, if_pos h2, if_neg (by omega)]; rfl
        · rw [if_neg h2, if_neg h2]; simp
  · unfold evs
    by_cases h0 : i = 0
    · subst h0; rfl
    · simp only [if_neg h0]
      by_cases h1 : i = j
      · subst h1
        simp only [if_true]
        rw [if_neg (by omega), if_neg (by omega)]; rfl
      · simp only [if_neg h1]
        by_cases h2 : i + 2 = (outB F).length
        · rw [if_pos h2, if_pos h2, if_neg (by omega)]; rfl
        · rw [if_neg h2, if_neg h2]; simp
end Go.Proofs.YtoohmpkhljfpbaaDoor.Mm
/- Plain mathematics of nodes on one wire; nothing of the program is in it. -/
namespace Go.Proofs.YtoohmpkhljfpbaaDoor.Mm
open Go.Proofs.YtoohmpkhljfpbaaDoor.Bm Go.Proofs.YtoohmpkhljfpbaaDoor.Fm Go.Proofs.YtoohmpkhljfpbaaDoor.Sm Go.Proofs.YtoohmpkhljfpbaaDoor.Cm
set_option linter.unusedVariables false
/-- Nodes, the wire's bits, what each heard; where nodes and wire lie (names alone). -/
structure Wi where
  ms : List St
  bs : List Bool
  hs : List (List Ev)
  qs : List Nat
  qb : Nat
/-- the latest hundred -/
def lst (l : List Ev) : List Ev := l.drop (l.length - 100)
theorem lst_len (l : List Ev) : (lst l).length ≤ 100 := by unfold lst; rw [List.length_drop]; omega
theorem lst_id {l : List Ev} (h : l.length ≤ 100) : lst l = l := by unfold lst; rw [Nat.sub_eq_zero_of_le h]; rfl
/-- what all see -/
def wbit (ms : List St) (fl : Bool) : Bool := (ms.all drive) != fl
def wmap (ms : List St) (c : Bool) : List St := ms.map (fun m => (sample m c).1)
def wevs (ms : List St) (c : Bool) : List Ev := ms.flatMap (fun m => (sample m c).2)
def wheard (ms : List St) (hs : List (List Ev)) (c : Bool) : List (List Ev) := List.zipWith (fun m h => lst (h ++ (sample m c).2)) ms hs
def wnext (W : Wi) (fl : Bool) : Wi := { W with ms := wmap W.ms (wbit W.ms fl), bs := W.bs ++ [wbit W.ms fl], hs := wheard W.ms W.hs (wbit W.ms fl) }
def wtold (W : Wi) (fl : Bool) : List Ev := wevs W.ms (wbit W.ms fl)
def wask (W : Wi) (who : Int) (f : Fr) : Nat × Wi :=
  if 0 ≤ who ∧ who < W.ms.length then ((ask (W.ms.getD who.toNat fresh) f).1, { W with ms := W.ms.set who.toNat (ask (W.ms.getD who.toNat fresh) f).2 }) else (141, W)
def wnew (k : Nat) (qs : List Nat) (qb : Nat) : Wi := ⟨List.replicate k fresh, [], List.replicate k [], qs, qb⟩
def heldN (n : Int) : Nat := (max 1 (min n 8)).toNat
theorem wmap_len (ms : List St) (c : Bool) : (wmap ms c).length = ms.length := by unfold wmap; rw [List.length_map]
theorem wnext_len (W : Wi) (fl : Bool) : (wnext W fl).ms.length = W.ms.length := wmap_len _ _
theorem wheard_len (ms : List St) (hs : List (List Ev)) (c : Bool) : (wheard ms hs c).length = min ms.length hs.length := by unfold wheard; rw [List.length_zipWith]
/-- One node among others, which are alike. -/
def pl {α : Type} (n s : Nat) (a b : α) : List α := (List.range n).map (fun j => if j = s then a else b)
theorem pl_len {α : Type} (n s : Nat) (a b : α) : (pl n s a b).length = n := by unfold pl; rw [List.length_map, List.length_range]
theorem pl_map {α β : Type} (f : α → β) (n s : Nat) (a b : α) : (pl n s a b).map f = pl n s (f a) (f b) := by
  unfold pl
  rw [List.map_map]
  apply congrArg (fun g => (List.range n).map g)
  funext j
  show f (if j = s then a else b) = _
  split <;> rfl
theorem pl_get {α : Type} (n s : Nat) (a b d : α) (j : Nat) (hj : j < n) : (pl n s a b).getD j d = if j = s then a else b := by
  unfold pl
  rw [List.getD_eq_getElem?_getD, List.getElem?_map, List.getElem?_range hj]
  rfl
theorem pl_get? {α : Type} (n s : Nat) (a b : α) (j : Nat) (hj : j < n) : (pl n s a b)[j]? = some (if j = s then a else b) := by
  unfold pl
  rw [List.getElem?_map, List.getElem?_range hj]
  rfl
theorem pl_zip {α β γ : Type} (f : α → β → γ) (n s : Nat) (a b : α) (c d : β) : List.zipWith f (pl n s a b) (pl n s c d) = pl n s (f a c) (f b d) := by
  unfold pl
  apply List.ext_getElem?
  intro j
  rw [List.getElem?_zipWith, List.getElem?_map, List.getElem?_map, List.getElem?_map]
  by_cases hj : j < n
  · rw [List.getElem?_range hj]
    simp only [Option.map_some]
    split <;> rfl
  · rw [List.getElem?_eq_none (by rw [List.length_range]; omega)]
    rfl
theorem pl_same {α : Type} (n s : Nat) (a : α) : pl n s a a = List.replicate n a := by
  unfold pl
  apply List.ext_getElem?
  intro j
  rw [List.getElem?_map, List.getElem?_replicate]
  by_cases hj : j < n
  · rw [List.getElem?_range hj, if_pos hj]
    show some (if j = s then a else a) = _
    split <;> rfl
  · rw [List.getElem?_eq_none (by rw [List.length_range]; omega), if_neg hj]
    rfl
theorem pl_set {α : Type} (n s : Nat) (a b c : α) : (pl n s a b).set s c = pl n s c b := by
  unfold pl
  apply List.ext_getElem?
  intro j
  by_cases hj : j < n
  · rw [List.getElem?_set, List.length_map, List.length_range, List.getElem?_map, List.getElem?_map, List.getElem?_range hj]
    by_cases hs : s = j
    · subst hs; rw [if_pos rfl, if_pos hj]; simp
    · rw [if_neg hs]
      simp only [Option.map_some]
      rw [if_neg (fun e => hs e.symm), if_neg (fun e => hs e.symm)]
  · rw [List.getElem?_eq_none (by simp; omega), List.getElem?_eq_none (by simp; omega)]
theorem pl_all {α : Type} (p : α → Bool) (n s : Nat) (a b : α) (hs : s < n) (hn : 2 ≤ n) : (pl n s a b).all p = (p a && p b) := by
  rw [Bool.eq_iff_iff, List.all_eq_true, Bool.and_eq_true]
  constructor
  · intro h
    refine ⟨?_, ?_⟩
    · exact h a (List.mem_of_getElem? (i := s) (by rw [pl_get? n s a b s hs, if_pos rfl]))
    · obtain ⟨j, hj, hne⟩ : ∃ j, j < n ∧ j ≠ s := by
        by_cases h0 : s = 0
        · exact ⟨1, by omega, by omega⟩
        · exact ⟨0, by omega, by omega⟩
      exact h b (List.mem_of_getElem? (i := j) (by rw [pl_get? n s a b j hj, if_neg hne]))
  · rintro ⟨h1, h2⟩ x hx
    unfold pl at hx
    obtain ⟨j, _, hj⟩ := List.mem_map.1 hx
    rw [← hj]
    split
    · exact h1
    · exact h2
/-- all events of a bit, where one node tells l and each other one k -/
theorem pl_flat {α : Type} (f : α → List Ev) (n s : Nat) (a b : α) : (pl n s a b).flatMap f = (pl n s (f a) (f b)).flatten := by
  rw [← pl_map f, List.flatMap]
theorem flat_nil (n : Nat) : (List.replicate n ([] : List Ev)).flatten = [] := by
  induction n with
  | zero => rfl
  | succ n ih => rw [List.replicate_succ, List.flatten_cons, ih]; rfl
/-- wstep keeps one among others that are alike -/
theorem wnext_pl {W : Wi} {n s : Nat} {x y : St} {h g : List Ev} (h1 : W.ms = pl n s x y) (h2 : W.hs = pl n s h g) (fl : Bool) :
    (wnext W fl).ms = pl n s (sample x (wbit W.ms fl)).1 (sample y (wbit W.ms fl)).1 ∧ (wnext W fl).hs = pl n s (lst (h ++ (sample x (wbit W.ms fl)).2)) (lst (g ++ (sample y (wbit W.ms fl)).2)) := by
  unfold wnext wmap wheard
  dsimp only
  rw [h2]
  generalize wbit W.ms fl = c
  rw [h1, pl_map, pl_zip]
  exact ⟨rfl, rfl⟩
end Go.Proofs.YtoohmpkhljfpbaaDoor.Mm
/- Plain mathematics of one frame among nodes that have nothing to send; nothing of the program is in it. -/
namespace Go.Proofs.YtoohmpkhljfpbaaDoor.Mm
open Go.Proofs.YtoohmpkhljfpbaaDoor.Bm Go.Proofs.YtoohmpkhljfpbaaDoor.Fm Go.Proofs.YtoohmpkhljfpbaaDoor.Sm Go.Proofs.YtoohmpkhljfpbaaDoor.Cm
set_option linter.unusedVariables false
def oL (f : Fr) : Nat := (outB f).length
/-- who sends, ahead of bit i; who listens -/
def snA (f : Fr) (i : Nat) : St := if i < 3 then pz (3 - i) true f [] false 0 0 else if i < 3 + oL f then tst f [] false 0 0 (i - 3) else if i < 6 + oL f then pz (6 + oL f - i) false f (ackB f) false 0 0 else idS false f (ackB f) false 0 0
def lsA (f : Fr) (i : Nat) : St := if i < 3 then pz (3 - i) false noF [] false 0 0 else if i < 3 + oL f then hs false noF f (i - 3) else if i < 6 + oL f then pz (6 + oL f - i) false noF ((ackB f).take (oL f - 1)) true 0 0 else idS false noF ((ackB f).take (oL f - 1)) true 0 0
def btA (f : Fr) (i : Nat) : Bool := if 3 ≤ i ∧ i < 3 + oL f then (ackB f).getD (i - 3) true else true
def evS (f : Fr) (i : Nat) : List Ev := if i = 3 then [⟨6, noF, 0⟩] else if i + 1 = 3 + oL f then [⟨1, f, 0⟩] else []
def evL (f : Fr) (i : Nat) : List Ev := if i = 3 then [⟨6, noF, 0⟩] else if i + 2 = 3 + oL f then [⟨2, f, 0⟩] else []
theorem sn_step {f : Fr} (hf : isFr f = true) (i : Nat) : sample (snA f i) (btA f i) = (snA f (i + 1), evS f i) := by
  obtain ⟨hL, hL2⟩ := out_len hf
  have hoL : oL f = (outB f).length := rfl
  have hlen : (ackB f).length = oL f := ack_len f
  unfold snA btA evS
  by_cases h3 : i < 3
  · rw [if_pos h3, if_neg (show ¬ (3 ≤ i ∧ i < 3 + oL f) by omega), if_neg (show ¬ i = 3 by omega), if_neg (show ¬ i + 1 = 3 + oL f by omega)]
    by_cases h2 : i = 2
    · subst h2
      rw [if_neg (show ¬ 2 + 1 < 3 by omega), if_pos (show 2 + 1 < 3 + oL f by omega), pz_last]
      rfl
    · rw [if_pos (show i + 1 < 3 by omega), show 3 - i = (1 - i) + 2 by omega, pz_one, show 3 - (i + 1) = 1 - i + 1 by omega]
  · rw [if_neg h3, if_neg (show ¬ i + 1 < 3 by omega)]
    by_cases hl : i < 3 + oL f
    · rw [if_pos hl, if_pos ⟨by omega, hl⟩]
      by_cases hz : i + 1 = 3 + oL f
      · rw [if_neg (show ¬ i + 1 < 3 + oL f by omega), if_pos (by omega), if_neg (by omega), if_pos hz, tst_last hf _ _ _ _ (i - 3) (by omega)]
        have e1 : (ackB f).take (i - 3 + 1) = ackB f := List.take_of_length_le (by omega)
        have e2 : 6 + oL f - (i + 1) = 3 := by omega
        rw [e1, e2]
        rfl
      · rw [if_pos (show i + 1 < 3 + oL f by omega), if_neg hz, tst_bit hf _ _ _ _ (i - 3) (by omega), show i - 3 + 1 = i + 1 - 3 by omega]
        by_cases hi : i = 3
        · subst hi; rfl
        · rw [if_neg (show ¬ i - 3 = 0 by omega), if_neg hi]
    · rw [if_neg hl, if_neg (show ¬ (3 ≤ i ∧ i < 3 + oL f) by omega), if_neg (show ¬ i + 1 < 3 + oL f by omega), if_neg (show ¬ i = 3 by omega), if_neg (show ¬ i + 1 = 3 + oL f by omega)]
      by_cases h6 : i < 6 + oL f
      · rw [if_pos h6]
        by_cases h5 : i + 1 < 6 + oL f
        · rw [if_pos h5, show 6 + oL f - i = (4 + oL f - i) + 2 by omega, pz_one, show 6 + oL f - (i + 1) = 4 + oL f - i + 1 by omega]
        · rw [if_neg h5, show 6 + oL f - i = 1 by omega, pz_last]
      · rw [if_neg h6, if_neg (by omega), idS_one]
theorem ls_step {f : Fr} (hf : isFr f = true) (i : Nat) : sample (lsA f i) (btA f i) = (lsA f (i + 1), evL f i) := by
  obtain ⟨hL, hL2⟩ := out_len hf
  have hoL : oL f = (outB f).length := rfl
  unfold lsA btA evL
  by_cases h3 : i < 3
  · rw [if_pos h3, if_neg (show ¬ (3 ≤ i ∧ i < 3 + oL f) by omega), if_neg (show ¬ i = 3 by omega), if_neg (show ¬ i + 2 = 3 + oL f by omega)]
    by_cases h2 : i = 2
    · subst h2
      rw [if_neg (show ¬ 2 + 1 < 3 by omega), if_pos (show 2 + 1 < 3 + oL f by omega), pz_last]
      rfl
    · rw [if_pos (show i + 1 < 3 by omega), show 3 - i = (1 - i) + 2 by omega, pz_one, show 3 - (i + 1) = 1 - i + 1 by omega]
  · rw [if_neg h3, if_neg (show ¬ i + 1 < 3 by omega)]
    by_cases hl : i < 3 + oL f
    · rw [if_pos hl, if_pos ⟨by omega, hl⟩]
      by_cases hz : i + 1 = 3 + oL f
      · rw [if_neg (show ¬ i + 1 < 3 + oL f by omega), if_pos (by omega), if_neg (by omega), if_neg (by omega), hs_last false noF hf (i - 3) (by omega)]
        rw [show i - 3 + 1 = (outB f).length by omega, hs_end false noF hf, show 6 + oL f - (i + 1) = 3 by omega]
        rfl
      · rw [if_pos (show i + 1 < 3 + oL f by omega)]
        by_cases hi : i = 3
        · subst hi
          rw [if_pos rfl]
          exact hs_zero noF hf
        · rw [if_neg hi, hs_bit false noF hf (i - 3) (by omega) (by omega), show i - 3 + 1 = i + 1 - 3 by omega]
          by_cases h2 : i + 2 = 3 + oL f
          · rw [if_pos h2, if_pos (by omega)]
          · rw [if_neg h2, if_neg (by omega)]
    · rw [if_neg hl, if_neg (show ¬ (3 ≤ i ∧ i < 3 + oL f) by omega), if_neg (show ¬ i + 1 < 3 + oL f by omega), if_neg (show ¬ i = 3 by omega), if_neg (show ¬ i + 2 = 3 + oL f by omega)]
      by_cases h6 : i < 6 + oL f
      · rw [if_pos h6]
        by_cases h5 : i + 1 < 6 + oL f
        · rw [if_pos h5, show 6 + oL f - i = (4 + oL f - i) + 2 by omega, pz_one, show 6 + oL f - (i + 1) = 4 + oL f - i + 1 by omega]
        · rw [if_neg h5, show 6 + oL f - i = 1 by omega, pz_last]
      · rw [if_neg h6, if_neg (by omega), idS_one]
theorem pz_drive (k : Nat) (h : Bool) (f : Fr) (b : List Bool) (tk : Bool) (s g : Int) : drive (pz k h f b tk s g) = true := rfl
theorem idS_drive (f : Fr) (b : List Bool) (tk : Bool) (s g : Int) : drive (idS false f b tk s g) = true := rfl
theorem both_drive {f : Fr} (hf : isFr f = true) (i : Nat) : (drive (snA f i) && drive (lsA f i)) = btA f i := by
  obtain ⟨hL, hL2⟩ := out_len hf
  have hoL : oL f = (outB f).length := rfl
  unfold snA lsA btA
  by_cases h3 : i < 3
  · rw [if_pos h3, if_pos h3, if_neg (by omega), pz_drive, pz_drive]; rfl
  · rw [if_neg h3, if_neg h3]
    by_cases hl : i < 3 + oL f
    · rw [if_pos hl, if_pos hl, if_pos ⟨by omega, hl⟩, tst_drive _ _ _ _ _ hf (by omega), hs_drive false noF hf (i - 3) (by omega) (fun _ => rfl), ack_get f (i - 3) (by omega)]
      by_cases h9 : i - 3 = (outB f).length - 9
      · rw [if_pos h9, decide_eq_true h9]; simp
      · rw [if_neg h9, decide_eq_false h9]; simp
    · rw [if_neg hl, if_neg hl, if_neg (show ¬ (3 ≤ i ∧ i < 3 + oL f) by omega)]
      split <;> rfl
/-- what each has heard ahead of bit i -/
def hS (f : Fr) (i : Nat) : List Ev := if i ≤ 3 then [] else if i < 3 + oL f then [⟨6, noF, 0⟩] else [⟨6, noF, 0⟩, ⟨1, f, 0⟩]
def hL (f : Fr) (i : Nat) : List Ev := if i ≤ 3 then [] else if i + 1 < 3 + oL f then [⟨6, noF, 0⟩] else [⟨6, noF, 0⟩, ⟨2, f, 0⟩]
theorem hS_step {f : Fr} (hf : isFr f = true) (i : Nat) : lst (hS f i ++ evS f i) = hS f (i + 1) := by
  obtain ⟨hL, hL2⟩ := out_len hf
  have hoL : oL f = (outB f).length := rfl
  have e : hS f i ++ evS f i = hS f (i + 1) := by
    unfold hS evS
    by_cases h3 : i = 3
    · subst h3; rw [if_pos (by omega), if_pos rfl, if_neg (by omega), if_pos (by omega)]; rfl
    · rw [if_neg h3]
      by_cases h4 : i ≤ 3
      · rw [if_pos h4, if_pos (show i + 1 ≤ 3 by omega), if_neg (show ¬ i + 1 = 3 + oL f by omega)]; rfl
      · rw [if_neg h4, if_neg (show ¬ i + 1 ≤ 3 by omega)]
        by_cases hz : i + 1 = 3 + oL f
        · rw [if_pos (by omega), if_pos hz, if_neg (by omega)]; rfl
        · rw [if_neg hz]
          by_cases hl : i < 3 + oL f
          · rw [if_pos hl, if_pos (by omega)]; rfl
          · rw [if_neg hl, if_neg (by omega)]; rfl
  rw [e]
  apply lst_id
  unfold hS
  split
  · simp
  · split <;> simp
theorem hL_step {f : Fr} (hf : isFr f = true) (i : Nat) : lst (hL f i ++ evL f i) = hL f (i + 1) := by
  obtain ⟨hL', hL2⟩ := out_len hf
  have hoL : oL f = (outB f).length := rfl
  have e : hL f i ++ evL f i = hL f (i + 1) := by
    unfold hL evL
    by_cases h3 : i = 3
    · subst h3; rw [if_pos (by omega), if_pos rfl, if_neg (by omega), if_pos (by omega)]; rfl
    · rw [if_neg h3]
      by_cases h4 : i ≤ 3
      · rw [if_pos h4, if_pos (show i + 1 ≤ 3 by omega), if_neg (show ¬ i + 2 = 3 + oL f by omega)]; rfl
      · rw [if_neg h4, if_neg (show ¬ i + 1 ≤ 3 by omega)]
        by_cases hz : i + 2 = 3 + oL f
        · rw [if_pos (by omega), if_pos hz, if_neg (by omega)]; rfl
        · rw [if_neg hz]
          by_cases hl : i + 1 < 3 + oL f
          · rw [if_pos hl, if_pos (by omega)]; rfl
          · rw [if_neg hl, if_neg (by omega)]; rfl
  rw [e]
  apply lst_id
  unfold hL
  split
  · simp
  · split <;> simp
/-- The wire behind i bits: node s sends f, all others listen. -/
def One (f : Fr) (n s i : Nat) (W : Wi) : Prop := W.ms = pl n s (snA f i) (lsA f i) ∧ W.hs = pl n s (hS f i) (hL f i) ∧ W.bs.length = i
theorem one_start {f : Fr} (hf : isFr f = true) (n s : Nat) (hs : s < n) (qs : List Nat) (qb : Nat) : ∃ W', wask (wnew n qs qb) (s : Int) f = (0, W') ∧ One f n s 0 W' ∧ W'.qs = qs ∧ W'.qb = qb := by
  have hl : (wnew n qs qb).ms.length = n := by show (List.replicate n fresh).length = n; simp
  unfold wask
  rw [if_pos ⟨by omega, by rw [hl]; omega⟩]
  have hg : (wnew n qs qb).ms.getD (s : Int).toNat fresh = fresh := by show (List.replicate n fresh).getD s fresh = fresh; simp [List.getD_eq_getElem?_getD, hs]
  rw [hg]
  have ha : ask fresh f = (0, snA f 0) := by
    unfold ask
    rw [if_neg (by intro k; cases k), if_neg (by rw [hf]; decide)]
    rfl
  rw [ha]
  refine ⟨_, rfl, ⟨?_, ?_, rfl⟩, rfl, rfl⟩
  · show (List.replicate n fresh).set s (snA f 0) = _
    rw [← pl_same n s fresh, pl_set]
    rfl
  · show List.replicate n [] = _
    rw [← pl_same n s]
    rfl
theorem one_step {f : Fr} (hf : isFr f = true) {n s i : Nat} (hs : s < n) (hn : 2 ≤ n) {W : Wi} (h : One f n s i W) : wbit W.ms false = btA f i ∧ One f n s (i + 1) (wnext W false) ∧ wtold W false = (pl n s (evS f i) (evL f i)).flatten := by
  obtain ⟨h1, h2, h3⟩ := h
  have hb : wbit W.ms false = btA f i := by
    unfold wbit
    rw [h1, pl_all drive n s _ _ hs hn, both_drive hf]
    cases btA f i <;> rfl
  obtain ⟨k1, k2⟩ := wnext_pl h1 h2 false
  rw [hb, sn_step hf, ls_step hf] at k1 k2
  refine ⟨hb, ⟨k1, ?_, ?_⟩, ?_⟩
  · rw [k2, hS_step hf, hL_step hf]
  · show (W.bs ++ [wbit W.ms false]).length = i + 1
    rw [List.length_append, h3]; rfl
  · unfold wtold wevs
    rw [hb, h1, pl_flat, sn_step hf, ls_step hf]
end Go.Proofs.YtoohmpkhljfpbaaDoor.Mm
/- Plain mathematics of frames asked for at once: nodes bit by bit, whoever waits; nothing of the program is in it. -/
namespace Go.Proofs.YtoohmpkhljfpbaaDoor.Mm
open Go.Proofs.YtoohmpkhljfpbaaDoor.Bm Go.Proofs.YtoohmpkhljfpbaaDoor.Fm Go.Proofs.YtoohmpkhljfpbaaDoor.Sm Go.Proofs.YtoohmpkhljfpbaaDoor.Cm
set_option linter.unusedVariables false
/-- Between frames: so many bits of the pause are over. -/
def P5 (k : Nat) (m : St) : Prop := m.has = false ∧ m.snd = false ∧ (if k < 3 then m.ph = .pause ∧ m.left = 3 - k else m.ph = .idle)
theorem P5_fresh : P5 0 fresh := ⟨rfl, rfl, rfl, rfl⟩
theorem P5_step {k : Nat} (hk : k < 3) {m : St} (h : P5 k m) : drive m = true ∧ ∃ m', sample m true = (m', []) ∧ P5 (k + 1) m' := by
  obtain ⟨h1, h2, h3⟩ := h
  rw [if_pos hk] at h3
  obtain ⟨h3, h4⟩ := h3
  refine ⟨by unfold drive; rw [h3], ?_⟩
  unfold sample
  rw [h3]
  dsimp only
  rw [if_neg (by decide)]
  by_cases h5 : m.left = 1
  · rw [if_pos h5]
    refine ⟨_, rfl, h1, h2, ?_⟩
    rw [if_neg (by omega)]
  · rw [if_neg h5]
    refine ⟨_, rfl, h1, h2, ?_⟩
    rw [if_pos (by omega)]
    exact ⟨rfl, by show m.left - 1 = _; omega⟩
theorem bad_has (m : St) (e : Ev) (h : m.has = false) : (bad m e).1.has = false := by unfold bad; split <;> first | rfl | exact h
theorem hearing_has (m : St) (c : Bool) (h : m.has = false) : (hearing m c).1.has = false := by
  unfold hearing
  split
  · exact h
  · split
    · exact bad_has _ _ h
    · split <;> exact h
theorem has_sample (m : St) (c : Bool) (h : m.has = false) : (sample m c).1.has = false := by
  unfold sample
  cases m.ph
  · dsimp only
    split
    · exact h
    · unfold start; dsimp only; split <;> first | rfl | exact h
  · dsimp only
    split
    · unfold sending
      split
      · exact hearing_has _ _ h
      · split
        · exact bad_has _ _ h
        · split
          · exact bad_has _ _ h
          · split <;> exact h
    · exact hearing_has _ _ h
  · dsimp only; split <;> exact h
  · dsimp only
    unfold recover
    split
    · exact h
    · split
      · exact h
      · split <;> exact h
  · dsimp only
    split
    · unfold start; dsimp only; split <;> first | rfl | exact h
    · split <;> exact h
  · exact h
theorem has_start {m : St} (h : m.ph = .idle) : (sample m false).1.has = false := by
  unfold sample
  rw [h]
  dsimp only
  rw [if_neg (by decide)]
  unfold start
  dsimp only
  cases m.has <;> rfl
def fL (f : Fr) : Nat := (outB f).length
/-- Where the one that waits loses against F. -/
def LosOk (F G : Fr) (j : Nat) : Prop := isFr G = true ∧ 1 ≤ j ∧ j + 1 ≤ arbL G ∧ j + 1 ≤ arbL F ∧ (∀ i, i ≤ j → (ackB F).take i = (ackB G).take i) ∧ (outB F).getD j true = false ∧ (outB G).getD j true = true
def Rest (F : Fr) (G : Option Fr) (i : Nat) (m : St) : Prop := match G with
  | none => Thi F i m
  | some g => ∃ j, LosOk F g j ∧ Los F g j i m
/-- A node while F goes over the wire, ahead of bit i: the one that wins, one that loses, one that listens. -/
def Rol (F : Fr) (win : Bool) (G : Option Fr) (i : Nat) (m : St) : Prop :=
  (i ≠ 0 → m.has = false) ∧ (i = fL F → P5 0 m) ∧ (match win with | true => Win F i m | false => Rest F G i m)
theorem lis_last {F : Fr} {i : Nat} (hi : i + 1 = fL F) {m : St} (hm : m.has = false) (h : Lis F i m) (c : Bool) : P5 0 (sample m c).1 := by
  obtain ⟨a, b, _, d⟩ := h (by unfold fL at hi; omega)
  rw [lis_end a b (by rw [d]; exact decide_eq_true hi)]
  exact ⟨hm, b, rfl, rfl⟩
theorem Rol_step {F : Fr} (hF : isFr F = true) {win : Bool} {G : Option Fr} {i : Nat} (hi : i < fL F) {m : St} (h : Rol F win G i m) :
    (wire F i = true → drive m = true) ∧ (win = true → i + 9 ≠ fL F → drive m = wire F i) ∧ (win = false → i + 9 = fL F → drive m = false) ∧
    Rol F win G (i + 1) (sample m (wire F i)).1 ∧ (i + 1 = fL F → (sample m (wire F i)).2 = if win then [⟨1, F, 0⟩] else []) ∧ (i + 1 ≠ fL F → ∀ v ∈ (sample m (wire F i)).2, v.k = 2 ∨ v.k = 3 ∨ v.k = 6) := by
  obtain ⟨h1, h2, h3⟩ := h
  have hL := out_len hF
  unfold fL at *
  have hhas : (sample m (wire F i)).1.has = false := by
    by_cases h0 : i = 0
    · have hp : m.ph = .idle := by
        subst h0
        cases win with
        | true => unfold Win at h3; exact h3.1
        | false =>
          cases G with
          | none =>
            have h3 : Thi F 0 m := h3
            unfold Thi at h3; exact h3.1
          | some g =>
            have h3 : ∃ j, LosOk F g j ∧ Los F g j 0 m := h3
            obtain ⟨j, _, h3⟩ := h3; unfold Los at h3; exact h3.1
      subst h0
      rw [wire_zero hF]
      exact has_start hp
    · exact has_sample _ _ (h1 h0)
  have hwire : i ≠ 0 → wire F i = if i + 9 = (outB F).length then false else (outB F).getD i true := fun h0 => by
    unfold wire
    rw [ack_get F i hi]
    by_cases h9 : i + 9 = (outB F).length
    · rw [if_pos (by omega), if_pos h9]
    · rw [if_neg (by omega), if_neg h9]
  cases win with
  | true =>
    dsimp only at h3
    obtain ⟨d, m', e, w⟩ := win_step hF hi h3
    refine ⟨?_, ?_, fun k => (by cases k), ⟨fun _ => hhas, ?_, ?_⟩, ?_, ?_⟩
    · intro hw
      by_cases h0 : i = 0
      · subst h0; rw [wire_zero hF] at hw; cases hw
      · rw [d, if_neg h0]
        rw [hwire h0] at hw
        split at hw
        · cases hw
        · exact hw
    · intro _ h9
      by_cases h0 : i = 0
      · subst h0; rw [d, wire_zero hF, if_pos rfl]
      · rw [d, if_neg h0, hwire h0, if_neg h9]
    · intro hz
      have hz : i + 1 = (outB F).length := hz
      have h0 : i ≠ 0 := by omega
      unfold Win at h3
      rw [if_neg h0] at h3
      obtain ⟨a, b, c, d2⟩ := h3 hi
      refine ⟨hhas, ?_⟩
      unfold wire
      rw [snd_bit hF a b c d2 hi, if_pos hz]
      exact ⟨rfl, rfl, rfl⟩
    · show Win F (i + 1) (sample m (wire F i)).1
      rw [e]; exact w
    · intro hz
      rw [e, if_neg (by omega), if_pos hz]
      rfl
    · intro hz v hv
      rw [e] at hv
      by_cases h0 : i = 0
      · rw [if_pos h0] at hv; simp at hv; subst hv; exact Or.inr (Or.inr rfl)
      · rw [if_neg h0, if_neg hz] at hv; cases hv
  | false =>
    have key : ∃ d e, drive m = d ∧ (sample m (wire F i)).2 = e ∧ (wire F i = true → d = true) ∧ (i + 9 = (outB F).length → d = false) ∧ (i + 1 = (outB F).length → e = []) ∧ (∀ v ∈ e, v.k = 2 ∨ v.k = 3 ∨ v.k = 6) ∧ (i + 1 = (outB F).length → P5 0 (sample m (wire F i)).1) ∧
        Rest F G (i + 1) (sample m (wire F i)).1 := by
      cases G with
      | none =>
        have h3 : Thi F i m := h3
        show ∃ d e, drive m = d ∧ (sample m (wire F i)).2 = e ∧ _ ∧ _ ∧ _ ∧ _ ∧ _ ∧ Thi F (i + 1) (sample m (wire F i)).1
        obtain ⟨d, m', e, w⟩ := thi_step hF hi h3
        refine ⟨_, _, d, congrArg Prod.snd e, ?_, ?_, ?_, ?_, ?_, ?_⟩
        · intro hw
          by_cases h0 : i = 0
          · rw [if_pos h0]
          · rw [if_neg h0]
            rw [hwire h0] at hw
            split at hw
            · cases hw
            · rename_i h9; rw [decide_eq_false h9]; rfl
        · intro h9; rw [if_neg (by omega), decide_eq_true h9]; rfl
        · intro hz; dsimp only; rw [if_neg (by omega), if_neg (by omega)]
        · intro v hv
          dsimp only at hv
          split at hv
          · simp at hv; subst hv; exact Or.inr (Or.inr rfl)
          · split at hv
            · simp at hv; subst hv; exact Or.inl rfl
            · cases hv
        · intro hz
          have h0 : i ≠ 0 := by omega
          unfold Thi at h3
          rw [if_neg h0] at h3
          exact lis_last hz (h1 h0) h3 _
        · rw [e]; exact w
      | some g =>
        have h3 : ∃ j, LosOk F g j ∧ Los F g j i m := h3
        show ∃ d e, drive m = d ∧ (sample m (wire F i)).2 = e ∧ _ ∧ _ ∧ _ ∧ _ ∧ _ ∧ ∃ j, LosOk F g j ∧ Los F g j (i + 1) (sample m (wire F i)).1
        obtain ⟨j, hj, h3⟩ := h3
        obtain ⟨hG, j1, jG, jF, ht, dF, dG⟩ := hj
        obtain ⟨d, m', e, w⟩ := los_step hF hG j1 jG jF ht dF dG hi h3
        have aF := arb_le F
        refine ⟨_, _, d, congrArg Prod.snd e, ?_, ?_, ?_, ?_, ?_, ?_⟩
        · intro hw
          by_cases h0 : i = 0
          · subst h0; rw [wire_zero hF] at hw; cases hw
          · rw [if_neg h0]
            rw [hwire h0] at hw
            split at hw
            · cases hw
            · rename_i h9
              by_cases h4 : i < j
              · rw [if_pos h4]; exact hw
              · rw [if_neg h4]
                by_cases h5 : i = j
                · rw [if_pos h5]
                · rw [if_neg h5, decide_eq_false h9]; rfl
        · intro h9; rw [if_neg (by omega), if_neg (by omega), if_neg (by omega), decide_eq_true h9]; rfl
        · intro hz; dsimp only; rw [if_neg (by omega), if_neg (by omega), if_neg (by omega)]
        · intro v hv
          dsimp only at hv
          split at hv
          · simp at hv; subst hv; exact Or.inr (Or.inr rfl)
          · split at hv
            · simp at hv; subst hv; exact Or.inr (Or.inl rfl)
            · split at hv
              · simp at hv; subst hv; exact Or.inl rfl
              · cases hv
        · intro hz
          have h0 : i ≠ 0 := by omega
          unfold Los at h3
          rw [if_neg h0, if_neg (by omega)] at h3
          exact lis_last hz (h1 h0) h3 _
        · exact ⟨j, ⟨hG, j1, jG, jF, ht, dF, dG⟩, by rw [e]; exact w⟩
    obtain ⟨d, e, hd, he, k1, k2, k3, k4, k5, k6⟩ := key
    exact ⟨fun hw => (by rw [hd]; exact k1 hw), fun k => (by cases k), fun _ h9 => (by rw [hd]; exact k2 h9), ⟨fun _ => hhas, fun hz => k5 hz, k6⟩, fun hz => (by rw [he, k3 hz]; rfl), fun _ => (by rw [he]; exact k4)⟩
/-- All five. -/
def PB (F : Fr) (s : Nat) (G : Nat → Option Fr) (i : Nat) (ms : List St) : Prop := ms.length = 5 ∧ s < 4 ∧ ∀ k m, ms[k]? = some m → Rol F (k == s) (G k) i m
def PA (k : Nat) (ms : List St) : Prop := ms.length = 5 ∧ ∀ m ∈ ms, P5 k m
theorem PA_step {k : Nat} (hk : k < 3) {ms : List St} (h : PA k ms) : ms.all drive = true ∧ PA (k + 1) (wmap ms true) ∧ wevs ms true = [] := by
  refine ⟨List.all_eq_true.2 (fun m hm => (P5_step hk (h.2 m hm)).1), ⟨by rw [wmap_len]; exact h.1, ?_⟩, ?_⟩
  · intro m hm
    obtain ⟨x, hx, rfl⟩ := List.mem_map.1 hm
    obtain ⟨_, m', e, p⟩ := P5_step hk (h.2 x hx)
    rw [e]; exact p
  · unfold wevs
    rw [List.flatMap_eq_nil_iff]
    intro x hx
    obtain ⟨_, m', e, p⟩ := P5_step hk (h.2 x hx)
    rw [e]
theorem PB_step {F : Fr} (hF : isFr F = true) {s : Nat} {G : Nat → Option Fr} {i : Nat} (hi : i < fL F) {ms : List St} (h : PB F s G i ms) :
    ms.all drive = wire F i ∧ PB F s G (i + 1) (wmap ms (wire F i)) ∧ (i + 1 = fL F → wevs ms (wire F i) = [⟨1, F, 0⟩]) ∧ (i + 1 ≠ fL F → ∀ v ∈ wevs ms (wire F i), v.k = 2 ∨ v.k = 3 ∨ v.k = 6) := by
  obtain ⟨h1, h2, h3⟩ := h
  have at_ : ∀ k, k < 5 → ∃ m, ms[k]? = some m := fun k hk => ⟨_, List.getElem?_eq_getElem (by omega)⟩
  refine ⟨?_, ⟨by rw [wmap_len]; exact h1, h2, ?_⟩, ?_, ?_⟩
  · cases hw : wire F i with
    | true =>
      refine List.all_eq_true.2 (fun m hm => ?_)
      obtain ⟨k, hk⟩ := List.getElem?_of_mem hm
      exact (Rol_step hF hi (h3 k m hk)).1 hw
    | false =>
      have hfin : ∀ k m, ms[k]? = some m → drive m = false → ms.all drive = false := fun k m hk hd => by
        rw [List.all_eq_false]
        exact ⟨m, List.mem_of_getElem? hk, by rw [hd]; decide⟩
      by_cases h9 : i + 9 = fL F
      · obtain ⟨m, hm⟩ := at_ 4 (by decide)
        exact hfin 4 m hm ((Rol_step hF hi (h3 4 m hm)).2.2.1 (beq_false_of_ne (by omega)) h9)
      · obtain ⟨m, hm⟩ := at_ s (by omega)
        exact hfin s m hm (((Rol_step hF hi (h3 s m hm)).2.1 (beq_self_eq_true s) h9).trans hw)
  · intro k m hk
    unfold wmap at hk
    rw [List.getElem?_map] at hk
    cases hx : ms[k]? with
    | none => rw [hx] at hk; cases hk
    | some x =>
      rw [hx] at hk
      injection hk with hk
      subst hk
      exact (Rol_step hF hi (h3 k x hx)).2.2.2.1
  · intro hz
    obtain ⟨a, b, c, d, e, rfl⟩ : ∃ a b c d e, ms = [a, b, c, d, e] := by
      match ms, h1 with
      | [a, b, c, d, e], _ => exact ⟨a, b, c, d, e, rfl⟩
    have e0 := (Rol_step hF hi (h3 0 a rfl)).2.2.2.2.1 hz
    have e1 := (Rol_step hF hi (h3 1 b rfl)).2.2.2.2.1 hz
    have e2 := (Rol_step hF hi (h3 2 c rfl)).2.2.2.2.1 hz
    have e3 := (Rol_step hF hi (h3 3 d rfl)).2.2.2.2.1 hz
    have e4 := (Rol_step hF hi (h3 4 e rfl)).2.2.2.2.1 hz
    have q : wevs [a, b, c, d, e] (wire F i) = (sample a (wire F i)).2 ++ ((sample b (wire F i)).2 ++ ((sample c (wire F i)).2 ++ ((sample d (wire F i)).2 ++ ((sample e (wire F i)).2 ++ [])))) := rfl
    rw [q, e0, e1, e2, e3, e4]
    obtain rfl | rfl | rfl | rfl : s = 0 ∨ s = 1 ∨ s = 2 ∨ s = 3 := by omega
    all_goals rfl
  · intro hz v hv
    unfold wevs at hv
    obtain ⟨m, hm, hv⟩ := List.mem_flatMap.1 hv
    obtain ⟨k, hk⟩ := List.getElem?_of_mem hm
    exact (Rol_step hF hi (h3 k m hk)).2.2.2.2.2 hz v hv
theorem PB_end {F : Fr} {s : Nat} {G : Nat → Option Fr} {ms : List St} (h : PB F s G (fL F) ms) : PA 0 ms :=
  ⟨h.1, fun m hm => by obtain ⟨k, hk⟩ := List.getElem?_of_mem hm; exact (h.2.2 k m hk).2.1 rfl⟩
/-- whether all are idle and nobody waits -/
def idl (ms : List St) : Bool := ms.all (fun m => decide (m.ph = .idle) && !busy m)
theorem idl_PA {k : Nat} (hk : k < 3) {ms : List St} (h : PA k ms) : idl ms = false := by
  unfold idl
  rw [List.all_eq_false]
  obtain ⟨m, hm⟩ : ∃ m, m ∈ ms := by
    cases ms with
    | nil => cases h.1
    | cons a l => exact ⟨a, List.mem_cons_self⟩
  refine ⟨m, hm, ?_⟩
  have := (h.2 m hm).2.2
  rw [if_pos hk] at this
  rw [this.1]
  simp
theorem idl_PA3 {ms : List St} (h : PA 3 ms) : idl ms = true := by
  unfold idl
  refine List.all_eq_true.2 (fun m hm => ?_)
  obtain ⟨h1, h2, h3⟩ := h.2 m hm
  rw [if_neg (by decide)] at h3
  unfold busy
  rw [h1, h2, h3]
  decide
theorem idl_PB {F : Fr} {s : Nat} {G : Nat → Option Fr} {i : Nat} (h0 : i ≠ 0) (hi : i < fL F) {ms : List St} (h : PB F s G i ms) : idl ms = false := by
  obtain ⟨h1, h2, h3⟩ := h
  unfold idl
  rw [List.all_eq_false]
  obtain ⟨m, hm⟩ : ∃ m, ms[s]? = some m := ⟨_, List.getElem?_eq_getElem (by omega)⟩
  refine ⟨m, List.mem_of_getElem? hm, ?_⟩
  have h4 := (h3 s m hm).2.2
  rw [beq_self_eq_true s] at h4
  have h5 : Win F i m := h4
  unfold Win at h5
  rw [if_neg h0] at h5
  rw [(h5 hi).1]
  simp
end Go.Proofs.YtoohmpkhljfpbaaDoor.Mm
/- Plain mathematics of frames asked for at once: who waits, who wins, what was sent; nothing of the program is in it. -/
namespace Go.Proofs.YtoohmpkhljfpbaaDoor.Mm
open Go.Proofs.YtoohmpkhljfpbaaDoor.Bm Go.Proofs.YtoohmpkhljfpbaaDoor.Fm Go.Proofs.YtoohmpkhljfpbaaDoor.Sm Go.Proofs.YtoohmpkhljfpbaaDoor.Cm
set_option linter.unusedVariables false
def kf (f : Fr) : Nat := key f.1 f.2.1 f.2.2.1
theorem top_of {f : Fr} (h : isFr f = true) : f.2.1 < top f.1 := by
  have := h; unfold isFr isF at this; simp at this; exact this.1
theorem kf_cmp {f g : Fr} (hf : isFr f = true) (hg : isFr g = true) : cmpB (arb0 f.1 f.2.1 f.2.2.1) (arb0 g.1 g.2.1 g.2.2.1) = sgn (kf f) (kf g) := cmp_key _ _ _ _ _ _ (top_of hf) (top_of hg)
/-- Whoever waits: the one with the least key wins. -/
def Wn (fr : Nat → Fr) (ws : Nat → Bool) (s : Nat) : Prop := ws s = true ∧ ∀ k, ws k = true → k ≠ s → kf (fr s) < kf (fr k)
/-- What was sent so far and who still waits. -/
structure Bk (n : Nat) (fr : Nat → Fr) (ws : Nat → Bool) (O : List Fr) (r : Nat) : Prop where
  n4 : n ≤ 4
  isf : ∀ k, k < n → isFr (fr k) = true
  ne : ∀ i k, i < n → k < n → i ≠ k → kf (fr i) ≠ kf (fr k)
  lt : ∀ k, ws k = true → k < n
  cnt : (List.range n).countP ws = r
  len : O.length + r = n
  sorted : ∀ i a b, O[i]? = some a → O[i + 1]? = some b → kf a < kf b
  less : ∀ a ∈ O, ∀ k, ws k = true → kf a < kf (fr k)
  ok : ∀ a ∈ O, isFr a = true ∧ ∃ k, k < n ∧ a = fr k
theorem bk_start {n : Nat} {fr : Nat → Fr} (h4 : n ≤ 4) (hf : ∀ k, k < n → isFr (fr k) = true) (hne : ∀ i k, i < n → k < n → i ≠ k → kf (fr i) ≠ kf (fr k)) : Bk n fr (fun k => decide (k < n)) [] n := by
  refine ⟨h4, hf, hne, fun k hk => of_decide_eq_true hk, ?_, by simp, fun i a b h => by simp at h, fun a h => by simp at h, fun a h => by simp at h⟩
  rw [List.countP_eq_length_filter, List.filter_eq_self.2 (fun a ha => decide_eq_true (List.mem_range.1 ha)), List.length_range]
/-- Someone wins as long as someone waits. -/
theorem bk_win {n : Nat} {fr : Nat → Fr} {ws : Nat → Bool} {O : List Fr} {r : Nat} (h : Bk n fr ws O r) (hr : 0 < r) : ∃ s, Wn fr ws s := by
  have hex : ∃ k, k < n ∧ ws k = true := by
    have := h.cnt
    have hp : 0 < (List.range n).countP ws := by omega
    obtain ⟨k, hk, hw⟩ := List.countP_pos_iff.1 hp
    exact ⟨k, List.mem_range.1 hk, hw⟩
  -- the least key
  have : ∀ B, ∀ k, ws k = true → kf (fr k) ≤ B → ∃ s, Wn fr ws s := by
    intro B
    induction B with
    | zero =>
      intro k hk hB
      refine ⟨k, hk, fun j hj hne => ?_⟩
      have := h.ne j k (h.lt j hj) (h.lt k hk) hne
      omega
    | succ B ih =>
      intro k hk hB
      by_cases hm : ∃ j, ws j = true ∧ kf (fr j) < kf (fr k)
      · obtain ⟨j, hj, hl⟩ := hm
        exact ih j hj (by omega)
      · refine ⟨k, hk, fun j hj hne => ?_⟩
        have h1 := h.ne j k (h.lt j hj) (h.lt k hk) hne
        have h2 : ¬ kf (fr j) < kf (fr k) := fun e => hm ⟨j, hj, e⟩
        omega
  obtain ⟨k, _, hk⟩ := hex
  exact this _ k hk (Nat.le_refl _)
theorem countP_off (n : Nat) (ws : Nat → Bool) (s : Nat) (hs : ws s = true) (hn : s < n) : (List.range n).countP (fun k => ws k && decide (k ≠ s)) + 1 = (List.range n).countP ws := by
  induction n with
  | zero => omega
  | succ n ih =>
    rw [List.range_succ, List.countP_append, List.countP_append]
    by_cases e : s = n
    · subst e
      have h1 : (List.range s).countP (fun k => ws k && decide (k ≠ s)) = (List.range s).countP ws := by
        apply List.countP_congr
        intro x hx
        have := List.mem_range.1 hx
        simp
        intro _
        omega
      have h2 : [s].countP (fun k => ws k && decide (k ≠ s)) = 0 := by simp
      have h3 : [s].countP ws = 1 := by simp [hs]
      rw [h1, h2, h3]
    · have h1 := ih (by omega)
      have h2 : [n].countP (fun k => ws k && decide (k ≠ s)) = [n].countP ws := by
        have : n ≠ s := fun k => e k.symm
        simp [List.countP_cons, this]
      rw [h2]
      omega
/-- The one that wins was sent. -/
theorem bk_sent {n : Nat} {fr : Nat → Fr} {ws : Nat → Bool} {O : List Fr} {r : Nat} (h : Bk n fr ws O r) {s : Nat} (hw : Wn fr ws s) : 0 < r ∧ Bk n fr (fun k => ws k && decide (k ≠ s)) (O ++ [fr s]) (r - 1) := by
  have hs := h.lt s hw.1
  have hc := countP_off n ws s hw.1 hs
  have hcnt := h.cnt
  have hr : 0 < r := by omega
  refine ⟨hr, h.n4, h.isf, h.ne, ?_, by omega, by rw [List.length_append]; have := h.len; show O.length + 1 + (r - 1) = n; omega, ?_, ?_, ?_⟩
  · intro k hk
    simp at hk
    exact h.lt k hk.1
  · intro i a b ha hb
    by_cases e : i + 1 < O.length
    · rw [List.getElem?_append_left (by omega)] at ha
      rw [List.getElem?_append_left e] at hb
      exact h.sorted i a b ha hb
    · have hl : i + 1 < (O ++ [fr s]).length := (List.getElem?_eq_some_iff.1 hb).1
      rw [List.length_append] at hl
      have hl' : i + 1 < O.length + 1 := hl
      rw [List.getElem?_append_left (by omega)] at ha
      rw [List.getElem?_append_right (by omega), show i + 1 - O.length = 0 by omega] at hb
      have : fr s = b := by simpa using hb
      subst this
      exact h.less a (List.mem_of_getElem? ha) s hw.1
  · intro a ha k hk
    simp at hk
    rcases List.mem_append.1 ha with q | q
    · exact h.less a q k hk.1
    · simp at q
      subst q
      exact hw.2 k hk.1 hk.2
  · intro a ha
    rcases List.mem_append.1 ha with q | q
    · exact h.ok a q
    · simp at q
      subst q
      exact ⟨h.isf s hs, s, hs, rfl⟩
/-- Those of the first i that wait have been asked. -/
def Asked (fr : Nat → Fr) (ws : Nat → Bool) (i : Nat) (ms ms' : List St) : Prop := ms'.length = ms.length ∧ ∀ k m, ms[k]? = some m → ms'[k]? = some (if k < i ∧ ws k = true then { m with has := true, f := fr k } else m)
theorem asked_zero (fr : Nat → Fr) (ws : Nat → Bool) (ms : List St) : Asked fr ws 0 ms ms := ⟨rfl, fun k m h => by rw [if_neg (by omega)]; exact h⟩
theorem asked_skip {fr : Nat → Fr} {ws : Nat → Bool} {i : Nat} {ms ms' : List St} (h : Asked fr ws i ms ms') (hw : ws i = false) : Asked fr ws (i + 1) ms ms' := by
  refine ⟨h.1, fun k m hk => ?_⟩
  rw [h.2 k m hk]
  by_cases e : k = i
  · subst e
    rw [if_neg (by omega), if_neg (by rw [hw]; intro q; cases q.2)]
  · by_cases q : k < i ∧ ws k = true
    · rw [if_pos q, if_pos ⟨by omega, q.2⟩]
    · rw [if_neg q, if_neg (fun z => q ⟨by omega, z.2⟩)]
theorem asked_ask {fr : Nat → Fr} {ws : Nat → Bool} {i : Nat} {W V : Wi} (h3 : PA 3 W.ms) (h : Asked fr ws i W.ms V.ms) (hi : i < 5) (hf : isFr (fr i) = true) (hw : ws i = true) : ∃ V', wask V (i : Int) (fr i) = (0, V') ∧ Asked fr ws (i + 1) W.ms V'.ms ∧ V'.bs = V.bs := by
  have hl : V.ms.length = 5 := h.1.trans h3.1
  obtain ⟨m, hm⟩ : ∃ m, W.ms[i]? = some m := ⟨_, List.getElem?_eq_getElem (by rw [h3.1]; exact hi)⟩
  have hv := h.2 i m hm
  rw [if_neg (by omega)] at hv
  obtain ⟨p1, p2, p3⟩ := h3.2 m (List.mem_of_getElem? hm)
  rw [if_neg (by decide)] at p3
  have ha : ask m (fr i) = (0, { m with has := true, f := fr i }) := by
    unfold ask
    rw [if_neg (by rw [p3]; intro k; cases k), if_neg (by rw [hf]; decide), if_neg (by unfold busy; rw [p1, p2]; decide)]
  have hg : V.ms.getD i fresh = m := by rw [List.getD_eq_getElem?_getD, hv]; rfl
  unfold wask
  rw [if_pos ⟨by omega, by rw [hl]; omega⟩, Int.toNat_natCast, hg, ha]
  refine ⟨_, rfl, ⟨by show (V.ms.set i _).length = _; rw [List.length_set]; exact h.1, fun k x hk => ?_⟩, rfl⟩
  show (V.ms.set i _)[k]? = _
  by_cases e : i = k
  · subst e
    rw [hm] at hk
    injection hk with hk
    subst hk
    rw [List.getElem?_set_self (by omega), if_pos ⟨by omega, hw⟩]
  · rw [List.getElem?_set_ne e, h.2 k x hk]
    by_cases q : k < i ∧ ws k = true
    · rw [if_pos q, if_pos ⟨by omega, q.2⟩]
    · rw [if_neg q, if_neg (fun z => q ⟨by omega, z.2⟩)]
/-- All that wait begin at once. -/
theorem asked_all {n : Nat} {fr : Nat → Fr} {ws : Nat → Bool} {O : List Fr} {r : Nat} (h : Bk n fr ws O r) {s : Nat} (hw : Wn fr ws s) {ms ms' : List St} (h3 : PA 3 ms) (ha : Asked fr ws n ms ms') : PB (fr s) s (fun k => if ws k then some (fr k) else none) 0 ms' := by
  have hs := h.lt s hw.1
  have hsf := h.isf s hs
  have hL := (out_len hsf).1
  refine ⟨ha.1.trans h3.1, Nat.lt_of_lt_of_le hs h.n4, fun k m hk => ?_⟩
  have hk5 : k < ms.length := by rw [← ha.1]; exact (List.getElem?_eq_some_iff.1 hk).1
  have hx : ms[k]? = some ms[k] := List.getElem?_eq_getElem hk5
  have hv := ha.2 k _ hx
  rw [hk] at hv
  injection hv with hv
  obtain ⟨p1, p2, p3⟩ := h3.2 _ (List.mem_of_getElem? hx)
  rw [if_neg (by decide)] at p3
  refine ⟨fun e => absurd rfl e, fun e => by unfold fL at e; omega, ?_⟩
  by_cases e : k = s
  · subst e
    rw [beq_self_eq_true]
    show Win (fr k) 0 m
    unfold Win
    rw [if_pos rfl, hv, if_pos ⟨hs, hw.1⟩]
    exact ⟨p3, rfl, rfl⟩
  · rw [beq_false_of_ne e]
    show Rest (fr s) (if ws k = true then some (fr k) else none) 0 m
    cases hwk : ws k with
    | false =>
      rw [if_neg (by decide)]
      show Thi (fr s) 0 m
      unfold Thi
      rw [if_pos rfl, hv, if_neg (by rw [hwk]; intro q; cases q.2)]
      exact ⟨p3, p1⟩
    | true =>
      rw [if_pos rfl]
      have hkn := h.lt k hwk
      have hkf := h.isf k hkn
      obtain ⟨j, j1, jG, jF, ht, dF, dG⟩ := lose_at (f := fr s) hkf (by rw [kf_cmp hsf hkf]; exact sgn_lt (hw.2 k hwk e))
      refine ⟨j, ⟨hkf, j1, jG, jF, ht, dF, dG⟩, ?_⟩
      unfold Los
      rw [if_pos rfl, hv, if_pos ⟨hkn, hwk⟩]
      exact ⟨p3, rfl, rfl⟩
/-- Ahead of a bit, all asks done: a pause, or a frame. -/
def Go8 (n : Nat) (fr : Nat → Fr) (ws : Nat → Bool) (ms : List St) (t : Nat) : Prop :=
  (∃ k, k < 3 ∧ PA k ms ∧ t = k) ∨ ∃ s i, Wn fr ws s ∧ i < fL (fr s) ∧ PB (fr s) s (fun k => if ws k then some (fr k) else none) i ms ∧ t = 3 + i
/-- Ahead of the asks. -/
def Top8 (n : Nat) (fr : Nat → Fr) (ws : Nat → Bool) (ms : List St) (t : Nat) : Prop :=
  (∃ k, k ≤ 3 ∧ PA k ms ∧ t = k) ∨ ∃ s i, Wn fr ws s ∧ i ≠ 0 ∧ i < fL (fr s) ∧ PB (fr s) s (fun k => if ws k then some (fr k) else none) i ms ∧ t = 3 + i
theorem top_idle {n : Nat} {fr : Nat → Fr} {ws : Nat → Bool} {ms : List St} {t : Nat} (h : Top8 n fr ws ms t) : (idl ms = true ∧ PA 3 ms ∧ t = 3) ∨ (idl ms = false ∧ Go8 n fr ws ms t) := by
  rcases h with ⟨k, hk, hA, ht⟩ | ⟨s, i, hw, h0, hi, hB, ht⟩
  · by_cases e : k = 3
    · subst e; exact Or.inl ⟨idl_PA3 hA, hA, ht⟩
    · exact Or.inr ⟨idl_PA (by omega) hA, Or.inl ⟨k, by omega, hA, ht⟩⟩
  · exact Or.inr ⟨idl_PB h0 hi hB, Or.inr ⟨s, i, hw, hi, hB, ht⟩⟩
theorem go_asked {n : Nat} {fr : Nat → Fr} {ws : Nat → Bool} {O : List Fr} {r : Nat} (h : Bk n fr ws O r) (hr : 0 < r) {ms ms' : List St} (h3 : PA 3 ms) (ha : Asked fr ws n ms ms') : Go8 n fr ws ms' 3 := by
  obtain ⟨s, hw⟩ := bk_win h hr
  have hL := (out_len (h.isf s (h.lt s hw.1))).1
  exact Or.inr ⟨s, 0, hw, by unfold fL; omega, asked_all h hw h3 ha, rfl⟩
/-- One bit: nothing was sent, or the one that wins was. -/
theorem go_step {n : Nat} {fr : Nat → Fr} {ws : Nat → Bool} {O : List Fr} {r : Nat} (h : Bk n fr ws O r) {W : Wi} {t : Nat} (hg : Go8 n fr ws W.ms t) :
    ((∀ v ∈ wtold W false, v.k = 2 ∨ v.k = 3 ∨ v.k = 6) ∧ Top8 n fr ws (wnext W false).ms (t + 1) ∧ t ≤ 203) ∨
    ∃ s, Wn fr ws s ∧ wtold W false = [⟨1, fr s, 0⟩] ∧ t ≤ 203 ∧ Top8 n fr (fun k => ws k && decide (k ≠ s)) (wnext W false).ms 0 := by
  rcases hg with ⟨k, hk, hA, ht⟩ | ⟨s, i, hw, hi, hB, ht⟩
  · obtain ⟨h1, h2, h3⟩ := PA_step hk hA
    have hb : wbit W.ms false = true := by unfold wbit; rw [h1]; rfl
    left
    unfold wtold wnext
    dsimp only
    rw [hb, h3]
    exact ⟨fun v hv => (by cases hv), Or.inl ⟨k + 1, by omega, h2, by omega⟩, by omega⟩
  · have hsf := h.isf s (h.lt s hw.1)
    have hL := out_len hsf
    obtain ⟨h1, h2, h3, h4⟩ := PB_step hsf hi hB
    have hb : wbit W.ms false = wire (fr s) i := by unfold wbit; rw [h1]; cases wire (fr s) i <;> rfl
    unfold wtold wnext
    dsimp only
    rw [hb]
    by_cases hz : i + 1 = fL (fr s)
    · right
      rw [hz] at h2
      exact ⟨s, hw, h3 hz, by unfold fL at hi; omega, Or.inl ⟨0, by omega, PB_end h2, rfl⟩⟩
    · left
      exact ⟨h4 hz, Or.inr ⟨s, i + 1, hw, by omega, by omega, h2, by omega⟩, by unfold fL at hi; omega⟩
end Go.Proofs.YtoohmpkhljfpbaaDoor.Mm
