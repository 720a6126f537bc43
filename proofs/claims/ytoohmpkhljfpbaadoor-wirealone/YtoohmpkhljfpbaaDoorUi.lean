/- Plain mathematics of a lost arbitration: where two frames' bits part; nothing of the program is in it. -/
import Derived.Test.YtoohmpkhljfpbaaDoorUe
import Derived.Test.YtoohmpkhljfpbaaDoorU1
import Derived.Test.YtoohmpkhljfpbaaDoorMh
import Derived.Test.YtoohmpkhljfpbaaDoorMa
namespace Go.Proofs.YtoohmpkhljfpbaaDoor.Mm
open Go.Proofs.YtoohmpkhljfpbaaDoor.Bm Go.Proofs.YtoohmpkhljfpbaaDoor.Fm Go.Proofs.YtoohmpkhljfpbaaDoor.Sm Go.Proofs.YtoohmpkhljfpbaaDoor.Cm
set_option linter.unusedVariables false
theorem cmp_part (x : List Bool) : ∀ y, cmpB x y = -1 → ∃ p x' y', x = p ++ false :: x' ∧ y = p ++ true :: y' := by
  induction x with
  | nil => intro y h; cases h
  | cons a s ih =>
    intro y h
    cases y with
    | nil => cases h
    | cons b t =>
      unfold cmpB at h
      by_cases e : a = b
      · rw [if_pos e] at h
        obtain ⟨p, x', y', rfl, rfl⟩ := ih t h
        subst e
        exact ⟨a :: p, x', y', rfl, rfl⟩
      · rw [if_neg e] at h
        cases a
        · cases b
          · exact absurd rfl e
          · exact ⟨[], s, t, rfl, rfl⟩
        · simp at h
theorem stB_first (r : Nat × Bool) (c : Bool) (t : List Bool) : ∃ u, stB r [] (c :: t) = c :: u := by
  unfold stB
  split
  · rw [stB_out]; exact ⟨_, rfl⟩
  · rw [stB_out]; exact ⟨_, rfl⟩
theorem out_arb (f : Fr) : ∃ m, outB f = stuff (arb0 f.1 f.2.1 f.2.2.1) ++ m := by
  unfold outB enc0 plainOf body0 stuff
  rw [List.append_assoc, stB_append, List.append_assoc]
  exact ⟨_, rfl⟩
/-- Where the bits of two frames part on the wire. -/
theorem out_part {f g : Fr} (h : cmpB (arb0 f.1 f.2.1 f.2.2.1) (arb0 g.1 g.2.1 g.2.2.1) = -1) : ∃ P u v, outB f = P ++ false :: u ∧ outB g = P ++ true :: v ∧ P.length + 1 ≤ arbL g ∧ P.length + 1 ≤ arbL f := by
  obtain ⟨p, x', y', hx, hy⟩ := cmp_part _ _ h
  obtain ⟨mf, hf⟩ := out_arb f
  obtain ⟨mg, hg⟩ := out_arb g
  obtain ⟨u, hu⟩ := stB_first (stS (0, false) p) false x'
  obtain ⟨v, hv⟩ := stB_first (stS (0, false) p) true y'
  have ef : stuff (arb0 f.1 f.2.1 f.2.2.1) = stuff p ++ false :: u := by rw [hx]; unfold stuff; rw [stB_append, hu]
  have eg : stuff (arb0 g.1 g.2.1 g.2.2.1) = stuff p ++ true :: v := by rw [hy]; unfold stuff; rw [stB_append, hv]
  refine ⟨stuff p, u ++ mf, v ++ mg, by rw [hf, ef, List.append_assoc]; rfl, by rw [hg, eg, List.append_assoc]; rfl, ?_, ?_⟩
  · unfold arbL; rw [eg, List.length_append, List.length_cons]; omega
  · unfold arbL; rw [ef, List.length_append, List.length_cons]; omega
theorem ack_take (f : Fr) (j : Nat) (hj : j ≤ (outB f).length - 10) : (ackB f).take j = (outB f).take j := by
  obtain ⟨P, h1, h2⟩ := out_form f
  have hl : (outB f).length = P.length + 10 := by rw [h1, List.length_append, length_ones]
  rw [h1, h2, List.take_append_of_le_length (by omega), List.take_append_of_le_length (by omega)]
/-- The place at which the second one loses. -/
theorem lose_at {f g : Fr} (hg : isFr g = true) (h : cmpB (arb0 f.1 f.2.1 f.2.2.1) (arb0 g.1 g.2.1 g.2.2.1) = -1) :
    ∃ j, 1 ≤ j ∧ j + 1 ≤ arbL g ∧ j + 1 ≤ arbL f ∧ (∀ i, i ≤ j → (ackB f).take i = (ackB g).take i) ∧ (outB f).getD j true = false ∧ (outB g).getD j true = true := by
  obtain ⟨P, u, v, h1, h2, h3, h4⟩ := out_part h
  have hp : 1 ≤ P.length := by
    cases P with
    | nil =>
      exfalso
      have z := ack_zero hg
      rw [ack_take g 1 (by have := out_len hg; omega), h2] at z
      simp at z
    | cons a P => simp
  have a1 := arb_le f
  have a2 := arb_le g
  refine ⟨P.length, hp, h3, h4, fun i hi => ?_, ?_, ?_⟩
  · rw [ack_take f i (by omega), ack_take g i (by omega), h1, h2, List.take_append_of_le_length hi, List.take_append_of_le_length hi]
  · rw [h1, List.getD_eq_getElem?_getD, List.getElem?_append_right (Nat.le_refl _), Nat.sub_self]; rfl
  · rw [h2, List.getD_eq_getElem?_getD, List.getElem?_append_right (Nat.le_refl _), Nat.sub_self]; rfl
/-- Two frames that are not of one identifier and kind: one of them wins. -/
theorem one_wins {f g : Fr} (hf : isFr f = true) (hg : isFr g = true) (hne : ¬ (f.2.1 = g.2.1 ∧ f.1 = g.1 ∧ f.2.2.1 = g.2.2.1)) :
    cmpB (arb0 f.1 f.2.1 f.2.2.1) (arb0 g.1 g.2.1 g.2.2.1) = -1 ∨ cmpB (arb0 g.1 g.2.1 g.2.2.1) (arb0 f.1 f.2.1 f.2.2.1) = -1 := by
  have tf : f.2.1 < top f.1 := by
    have := hf; unfold isFr isF at this; simp at this; exact this.1
  have tg : g.2.1 < top g.1 := by
    have := hg; unfold isFr isF at this; simp at this; exact this.1
  have hk : key f.1 f.2.1 f.2.2.1 ≠ key g.1 g.2.1 g.2.2.1 := fun e => by
    obtain ⟨a, b, c⟩ := key_inj _ _ _ _ _ _ tf tg e
    exact hne ⟨b, a, c⟩
  rw [cmp_key _ _ _ _ _ _ tf tg, cmp_key _ _ _ _ _ _ tg tf]
  rcases Nat.lt_or_gt_of_ne hk with k | k
  · left; exact sgn_lt k
  · right; exact sgn_lt k
end Go.Proofs.YtoohmpkhljfpbaaDoor.Mm
/- Plain mathematics of a lost arbitration: three nodes, bit by bit; nothing of the program is in it. -/
namespace Go.Proofs.YtoohmpkhljfpbaaDoor.Mm
open Go.Proofs.YtoohmpkhljfpbaaDoor.Bm Go.Proofs.YtoohmpkhljfpbaaDoor.Fm Go.Proofs.YtoohmpkhljfpbaaDoor.Sm Go.Proofs.YtoohmpkhljfpbaaDoor.Cm
set_option linter.unusedVariables false
/-- All that is told at a bit. -/
def evs (F G : Fr) (j i : Nat) : List Ev := if i = 0 then [⟨6, noF, 0⟩, ⟨6, noF, 0⟩, ⟨6, noF, 0⟩] else if i = j then [⟨3, G, 0⟩] else if i + 2 = (outB F).length then [⟨2, F, 0⟩, ⟨2, F, 0⟩] else if i + 1 = (outB F).length then [⟨1, F, 0⟩] else []
/-- The one that wins. -/
def Win (F : Fr) (i : Nat) (m : St) : Prop := if i = 0 then m.ph = .idle ∧ m.has = true ∧ m.f = F else i < (outB F).length → m.ph = .inFr ∧ m.snd = true ∧ m.f = F ∧ m.bits = (ackB F).take i
/-- One that listens. -/
def Lis (F : Fr) (i : Nat) (m : St) : Prop := i < (outB F).length → m.ph = .inFr ∧ m.snd = false ∧ m.bits = (ackB F).take i ∧ m.tk = decide (i + 1 = (outB F).length)
/-- A third one. -/
def Thi (F : Fr) (i : Nat) (m : St) : Prop := if i = 0 then m.ph = .idle ∧ m.has = false else Lis F i m
/-- The one that loses at j. -/
def Los (F G : Fr) (j i : Nat) (m : St) : Prop := if i = 0 then m.ph = .idle ∧ m.has = true ∧ m.f = G else if i ≤ j then m.ph = .inFr ∧ m.snd = true ∧ m.f = G ∧ m.bits = (ackB F).take i ∧ m.tk = false else Lis F i m
def wire (F : Fr) (i : Nat) : Bool := (ackB F).getD i true
theorem wire_zero {F : Fr} (hF : isFr F = true) : wire F 0 = false := by
  have z := ack_zero hF
  unfold wire
  rw [List.getD_eq_getElem?_getD]
  have : (ackB F)[0]? = ((ackB F).take 1)[0]? := by rw [List.getElem?_take]; rfl
  rw [this, z]; rfl
theorem win_step {F : Fr} (hF : isFr F = true) {i : Nat} (hi : i < (outB F).length) {m : St} (h : Win F i m) : drive m = (if i = 0 then false else (outB F).getD i true) ∧ ∃ m', sample m (wire F i) = (m', if i = 0 then [⟨6, noF, 0⟩] else if i + 1 = (outB F).length then [⟨1, F, 0⟩] else []) ∧ Win F (i + 1) m' := by
  unfold Win at *
  by_cases h0 : i = 0
  · subst h0
    rw [if_pos rfl] at h
    obtain ⟨a, b, c⟩ := h
    rw [wire_zero hF, idle_zero a, idle_drive a, b]
    refine ⟨rfl, _, rfl, ?_⟩
    rw [if_neg (by omega)]
    intro _
    exact ⟨rfl, rfl, c, (ack_zero hF).symm⟩
  · rw [if_neg h0] at h
    obtain ⟨a, b, c, d⟩ := h hi
    rw [if_neg h0, if_neg h0]
    refine ⟨snd_drive a b c d hi, ?_⟩
    unfold wire
    rw [snd_bit hF a b c d hi]
    by_cases h1 : i + 1 = (outB F).length
    · rw [if_pos h1, if_pos h1]
      refine ⟨_, rfl, ?_⟩
      rw [if_neg (by omega)]
      intro k; omega
    · rw [if_neg h1, if_neg h1]
      refine ⟨_, rfl, ?_⟩
      rw [if_neg (by omega)]
      intro k
      exact ⟨a, b, c, rfl⟩
theorem lis_step {F : Fr} (hF : isFr F = true) {i : Nat} (h0 : i ≠ 0) (hi : i < (outB F).length) {m : St} (h : Lis F i m) : drive m = !decide (i + 9 = (outB F).length) ∧ ∃ m', sample m (wire F i) = (m', if i + 2 = (outB F).length then [⟨2, F, 0⟩] else []) ∧ Lis F (i + 1) m' := by
  have hL := (out_len hF).1
  obtain ⟨a, b, c, d⟩ := h hi
  refine ⟨?_, ?_⟩
  · rw [lis_drive hF a b c hi]
    congr 1
    apply decide_eq_decide.2
    omega
  · unfold wire
    by_cases h1 : i + 1 = (outB F).length
    · rw [lis_end a b (by rw [d]; exact decide_eq_true h1), if_neg (by omega)]
      refine ⟨_, rfl, fun k => by omega⟩
    · rw [lis_bit hF a b (by rw [d]; exact decide_eq_false h1) c (by omega)]
      by_cases h2 : i + 2 = (outB F).length
      · rw [if_pos h2, if_pos h2]
        refine ⟨_, rfl, fun k => ⟨a, b, rfl, ?_⟩⟩
        exact (decide_eq_true (by omega)).symm
      · rw [if_neg h2, if_neg h2]
        refine ⟨_, rfl, fun k => ⟨a, b, rfl, ?_⟩⟩
        show m.tk = _
        rw [d, decide_eq_false h1, decide_eq_false (by omega)]
theorem thi_step {F : Fr} (hF : isFr F = true) {i : Nat} (hi : i < (outB F).length) {m : St} (h : Thi F i m) : drive m = (if i = 0 then true else !decide (i + 9 = (outB F).length)) ∧ ∃ m', sample m (wire F i) = (m', if i = 0 then [⟨6, noF, 0⟩] else if i + 2 = (outB F).length then [⟨2, F, 0⟩] else []) ∧ Thi F (i + 1) m' := by
  unfold Thi at *
  have hL := (out_len hF).1
  by_cases h0 : i = 0
  · subst h0
    rw [if_pos rfl] at h
    obtain ⟨a, b⟩ := h
    rw [wire_zero hF, idle_zero a, idle_drive a, b]
    refine ⟨rfl, _, rfl, ?_⟩
    rw [if_neg (by omega)]
    intro _
    exact ⟨rfl, rfl, (ack_zero hF).symm, (decide_eq_false (by omega)).symm⟩
  · rw [if_neg h0] at h
    rw [if_neg h0, if_neg h0]
    obtain ⟨a, m', b, c⟩ := lis_step hF h0 hi h
    exact ⟨a, m', b, by rw [if_neg (by omega)]; exact c⟩
theorem los_step {F G : Fr} {j : Nat} (hF : isFr F = true) (hG : isFr G = true) (j1 : 1 ≤ j) (jG : j + 1 ≤ arbL G) (jF : j + 1 ≤ arbL F) (ht : ∀ i, i ≤ j → (ackB F).take i = (ackB G).take i) (dF : (outB F).getD j true = false) (dG : (outB G).getD j true = true) {i : Nat} (hi : i < (outB F).length) {m : St} (h : Los F G j i m) : (drive m = if i = 0 then false else if i < j then (outB F).getD i true else if i = j then true else !decide (i + 9 = (outB F).length)) ∧ ∃ m', sample m (wire F i) = (m', if i = 0 then [⟨6, noF, 0⟩] else if i = j then [⟨3, G, 0⟩] else if i + 2 = (outB F).length then [⟨2, F, 0⟩] else []) ∧ Los F G j (i + 1) m' := by
  unfold Los at *
  have hL := (out_len hF).1
  have hLG := (out_len hG).1
  have aF := arb_le F
  have aG := arb_le G
  by_cases h0 : i = 0
  · subst h0
    rw [if_pos rfl] at h
    obtain ⟨a, b, c⟩ := h
    rw [wire_zero hF, idle_zero a, idle_drive a, b]
    refine ⟨rfl, _, rfl, ?_⟩
    rw [if_neg (by omega), if_pos (by omega)]
    exact ⟨rfl, rfl, c, (ack_zero hF).symm, rfl⟩
  · rw [if_neg h0] at h
    rw [if_neg h0, if_neg h0]
    by_cases hij : i ≤ j
    · rw [if_pos hij] at h
      obtain ⟨a, b, c, d, e⟩ := h
      have d' : m.bits = (ackB G).take i := by rw [d]; exact ht i hij
      have hiG : i < (outB G).length := by omega
      by_cases hlt : i < j
      · rw [if_pos hlt, if_neg (by omega), if_neg (by omega)]
        have hw : (outB F).getD i true = (outB G).getD i true ∧ wire F i = (ackB G).getD i true := by
          have hs := ht (i + 1) (by omega)
          have e1 : (ackB F).getD i true = (ackB G).getD i true := by
            have := congrArg (fun l => l.getD i true) hs
            simp only [List.getD_eq_getElem?_getD, List.getElem?_take] at this
            simpa [List.getD_eq_getElem?_getD] using this
          refine ⟨?_, e1⟩
          rw [ack_get F i hi, ack_get G i hiG, if_neg (by omega), if_neg (by omega)] at e1
          exact e1
        refine ⟨by rw [hw.1]; exact snd_drive a b c d' hiG, ?_⟩
        rw [hw.2, snd_bit hG a b c d' hiG, if_neg (by omega)]
        refine ⟨_, rfl, ?_⟩
        rw [if_neg (by omega), if_pos (by omega)]
        exact ⟨a, b, c, (ht (i + 1) (by omega)).symm, e⟩
      · obtain rfl : i = j := by omega
        rw [if_neg (by omega), if_pos rfl, if_pos rfl]
        have hbl : m.bits.length = i := by rw [d]; exact take_len F i (by omega)
        refine ⟨by rw [← dG]; exact snd_drive a b c d' hiG, ?_⟩
        have hw : wire F i = false := by unfold wire; rw [ack_get F i hi, if_neg (by omega)]; exact dF
        rw [hw, snd_lost a b c (by omega) (by rw [hbl]; exact dG)]
        have hh : hearing { m with snd := false } false = sample { m with snd := false } ((ackB F).getD i true) := by
          have : (ackB F).getD i true = false := hw
          rw [this]
          show _ = sample _ _
          unfold sample
          dsimp only
          rw [a]
          rfl
        rw [hh, lis_bit hF (m := { m with snd := false }) a rfl e d (by omega), if_neg (by omega)]
        refine ⟨_, rfl, ?_⟩
        rw [if_neg (by omega), if_neg (by omega)]
        intro k
        refine ⟨a, rfl, rfl, ?_⟩
        show m.tk = _
        rw [e]
        exact (decide_eq_false (by omega)).symm
    · rw [if_neg hij] at h
      rw [if_neg (by omega), if_neg (by omega), if_neg (by omega)]
      obtain ⟨a, m', b, c⟩ := lis_step hF h0 hi h
      exact ⟨a, m', b, by rw [if_neg (by omega), if_neg (by omega)]; exact c⟩
/-- What all three see. -/
theorem all_step {F G : Fr} {j : Nat} (hF : isFr F = true) (hG : isFr G = true) (j1 : 1 ≤ j) (jG : j + 1 ≤ arbL G) (jF : j + 1 ≤ arbL F) (ht : ∀ i, i ≤ j → (ackB F).take i = (ackB G).take i) (dF : (outB F).getD j true = false) (dG : (outB G).getD j true = true) {i : Nat} (hi : i < (outB F).length) {a b c : St} (ha : Win F i a) (hb : Los F G j i b) (hc : Thi F i c) :
    (drive a && drive b && drive c) = wire F i ∧ ∃ a' b' c' x y z, sample a (wire F i) = (a', x) ∧ sample b (wire F i) = (b', y) ∧ sample c (wire F i) = (c', z) ∧ Win F (i + 1) a' ∧ Los F G j (i + 1) b' ∧ Thi F (i + 1) c' ∧ x ++ y ++ z = evs F G j i ∧ y ++ x ++ z = evs F G j i := by
  have hL := (out_len hF).1
  have aF := arb_le F
  obtain ⟨d1, a', s1, w1⟩ := win_step hF hi ha
  obtain ⟨d2, b', s2, w2⟩ := los_step hF hG j1 jG jF ht dF dG hi hb
  obtain ⟨d3, c', s3, w3⟩ := thi_step hF hi hc
  refine ⟨?_, a', b', c', _, _, _, s1, s2, s3, w1, w2, w3, ?_, ?_⟩
  · rw [d1, d2, d3]
    unfold wire
    by_cases h0 : i = 0
    · subst h0; exact (wire_zero hF).symm
    · rw [if_neg h0, if_neg h0, if_neg h0, ack_get F i hi]
      by_cases h1 : i < j
      · rw [if_pos h1, if_neg (by omega), decide_eq_false (by omega)]
        cases (outB F).getD i true <;> rfl
      · rw [if_neg h1]
        by_cases h2 : i = j
        · subst h2
          rw [if_pos rfl, if_neg (by omega), dF]; rfl
        · rw [if_neg h2]
          by_cases h9 : i + 9 = (outB F).length
          · rw [if_pos (by omega), decide_eq_true h9]; simp
          · rw [if_neg (by omega), decide_eq_false h9]; simp
  · unfold evs
    by_cases h0 : i = 0
    · subst h0; rfl
    · simp only [if_neg h0]
      by_cases h1 : i = j
      · subst h1
        simp only [if_true]
        rw [if_neg (by omega), if_neg (by omega)]; rfl
      · simp only [if_neg h1]
        by_cases h2 : i + 2 = (outB F).length
        · rw [if_pos h2, if_pos h2, if_neg (by omega)]; rfl
        · rw [if_neg h2, if_neg h2]; simp
  · unfold evs
    by_cases h0 : i = 0
    · subst h0; rfl
    · simp only [if_neg h0]
      by_cases h1 : i = j
      · subst h1
        simp only [if_true]
        rw [if_neg (by omega), if_neg (by omega)]; rfl
      · simp only [if_neg h1]
        by_cases h2 : i + 2 = (outB F).length
        · rw [if_pos h2, if_pos h2, if_neg (by omega)]; rfl
        · rw [if_neg h2, if_neg h2]; simp
end Go.Proofs.YtoohmpkhljfpbaaDoor.Mm
/- Plain mathematics of nodes on one wire; nothing of the program is in it. -/
namespace Go.Proofs.YtoohmpkhljfpbaaDoor.Mm
open Go.Proofs.YtoohmpkhljfpbaaDoor.Bm Go.Proofs.YtoohmpkhljfpbaaDoor.Fm Go.Proofs.YtoohmpkhljfpbaaDoor.Sm Go.Proofs.YtoohmpkhljfpbaaDoor.Cm
set_option linter.unusedVariables false
/-- Nodes, the wire's bits, what each heard; where nodes and wire lie (names alone). -/
structure Wi where
  ms : List St
  bs : List Bool
  hs : List (List Ev)
  qs : List Nat
  qb : Nat
/-- the latest hundred -/
def lst (l : List Ev) : List Ev := l.drop (l.length - 100)
theorem lst_len (l : List Ev) : (lst l).length ≤ 100 := by unfold lst; rw [List.length_drop]; omega
theorem lst_id {l : List Ev} (h : l.length ≤ 100) : lst l = l := by unfold lst; rw [Nat.sub_eq_zero_of_le h]; rfl
/-- what all see -/
def wbit (ms : List St) (fl : Bool) : Bool := (ms.all drive) != fl
def wmap (ms : List St) (c : Bool) : List St := ms.map (fun m => (sample m c).1)
def wevs (ms : List St) (c : Bool) : List Ev := ms.flatMap (fun m => (sample m c).2)
def wheard (ms : List St) (hs : List (List Ev)) (c : Bool) : List (List Ev) := List.zipWith (fun m h => lst (h ++ (sample m c).2)) ms hs
def wnext (W : Wi) (fl : Bool) : Wi := { W with ms := wmap W.ms (wbit W.ms fl), bs := W.bs ++ [wbit W.ms fl], hs := wheard W.ms W.hs (wbit W.ms fl) }
def wtold (W : Wi) (fl : Bool) : List Ev := wevs W.ms (wbit W.ms fl)
def wask (W : Wi) (who : Int) (f : Fr) : Nat × Wi :=
  if 0 ≤ who ∧ who < W.ms.length then ((ask (W.ms.getD who.toNat fresh) f).1, { W with ms := W.ms.set who.toNat (ask (W.ms.getD who.toNat fresh) f).2 }) else (141, W)
def wnew (k : Nat) (qs : List Nat) (qb : Nat) : Wi := ⟨List.replicate k fresh, [], List.replicate k [], qs, qb⟩
def heldN (n : Int) : Nat := (max 1 (min n 8)).toNat
theorem wmap_len (ms : List St) (c : Bool) : (wmap ms c).length = ms.length := by unfold wmap; rw [List.length_map]
theorem wnext_len (W : Wi) (fl : Bool) : (wnext W fl).ms.length = W.ms.length := wmap_len _ _
theorem wheard_len (ms : List St) (hs : List (List Ev)) (c : Bool) : (wheard ms hs c).length = min ms.length hs.length := by unfold wheard; rw [List.length_zipWith]
/-- One node among others, which are alike. -/
def pl {α : Type} (n s : Nat) (a b : α) : List α := (List.range n).map (fun j => if j = s then a else b)
theorem pl_len {α : Type} (n s : Nat) (a b : α) : (pl n s a b).length = n := by unfold pl; rw [List.length_map, List.length_range]
theorem pl_map {α β : Type} (f : α → β) (n s : Nat) (a b : α) : (pl n s a b).map f = pl n s (f a) (f b) := by
  unfold pl
  rw [List.map_map]
  apply congrArg (fun g => (List.range n).map g)
  funext j
  show f (if j = s then a else b) = _
  split <;> rfl
theorem pl_get {α : Type} (n s : Nat) (a b d : α) (j : Nat) (hj : j < n) : (pl n s a b).getD j d = if j = s then a else b := by
  unfold pl
  rw [List.getD_eq_getElem?_getD, List.getElem?_map, List.getElem?_range hj]
  rfl
theorem pl_get? {α : Type} (n s : Nat) (a b : α) (j : Nat) (hj : j < n) : (pl n s a b)[j]? = some (if j = s then a else b) := by
  unfold pl
  rw [List.getElem?_map, List.getElem?_range hj]
  rfl
theorem pl_zip {α β γ : Type} (f : α → β → γ) (n s : Nat) (a b : α) (c d : β) : List.zipWith f (pl n s a b) (pl n s c d) = pl n s (f a c) (f b d) := by
  unfold pl
  apply List.ext_getElem?
  intro j
  rw [List.getElem?_zipWith, List.getElem?_map, List.getElem?_map, List.getElem?_map]
  by_cases hj : j < n
  · rw [List.getElem?_range hj]
    simp only [Option.map_some]
    split <;> rfl
  · rw [List.getElem?_eq_none (by rw [List.length_range]; omega)]
    rfl
theorem pl_same {α : Type} (n s : Nat) (a : α) : pl n s a a = List.replicate n a := by
  unfold pl
  apply List.ext_getElem?
  intro j
  rw [List.getElem?_map, List.getElem?_replicate]
  by_cases hj : j < n
  · rw [List.getElem?_range hj, if_pos hj]
    show some (if j = s then a else a) = _
    split <;> rfl
  · rw [List.getElem?_eq_none (by rw [List.length_range]; omega), if_neg hj]
    rfl
theorem pl_set {α : Type} (n s : Nat) (a b c : α) : (pl n s a b).set s c = pl n s c b := by
  unfold pl
  apply List.ext_getElem?
  intro j
  by_cases hj : j < n
  · rw [List.getElem?_set, List.length_map, List.length_range, List.getElem?_map, List.getElem?_map, List.getElem?_range hj]
    by_cases hs : s = j
    · subst hs; rw [if_pos rfl, if_pos hj]; simp
    · rw [if_neg hs]
      simp only [Option.map_some]
      rw [if_neg (fun e => hs e.symm), if_neg (fun e => hs e.symm)]
  · rw [List.getElem?_eq_none (by simp; omega), List.getElem?_eq_none (by simp; omega)]
theorem pl_all {α : Type} (p : α → Bool) (n s : Nat) (a b : α) (hs : s < n) (hn : 2 ≤ n) : (pl n s a b).all p = (p a && p b) := by
  rw [Bool.eq_iff_iff, List.all_eq_true, Bool.and_eq_true]
  constructor
  · intro h
    refine ⟨?_, ?_⟩
    · exact h a (List.mem_of_getElem? (i := s) (by rw [pl_get? n s a b s hs, if_pos rfl]))
    · obtain ⟨j, hj, hne⟩ : ∃ j, j < n ∧ j ≠ s := by
        by_cases h0 : s = 0
        · exact ⟨1, by omega, by omega⟩
        · exact ⟨0, by omega, by omega⟩
      exact h b (List.mem_of_getElem? (i := j) (by rw [pl_get? n s a b j hj, if_neg hne]))
  · rintro ⟨h1, h2⟩ x hx
    unfold pl at hx
    obtain ⟨j, _, hj⟩ := List.mem_map.1 hx
    rw [← hj]
    split
    · exact h1
    · exact h2
/-- all events of a bit, where one node tells l and each other one k -/
theorem pl_flat {α : Type} (f : α → List Ev) (n s : Nat) (a b : α) : (pl n s a b).flatMap f = (pl n s (f a) (f b)).flatten := by
  rw [← pl_map f, List.flatMap]
theorem flat_nil (n : Nat) : (List.replicate n ([] : List Ev)).flatten = [] := by
  induction n with
  | zero => rfl
  | succ n ih => rw [List.replicate_succ, List.flatten_cons, ih]; rfl
/-- wstep keeps one among others that are alike -/
theorem wnext_pl {W : Wi} {n s : Nat} {x y : St} {h g : List Ev} (h1 : W.ms = pl n s x y) (h2 : W.hs = pl n s h g) (fl : Bool) :
    (wnext W fl).ms = pl n s (sample x (wbit W.ms fl)).1 (sample y (wbit W.ms fl)).1 ∧ (wnext W fl).hs = pl n s (lst (h ++ (sample x (wbit W.ms fl)).2)) (lst (g ++ (sample y (wbit W.ms fl)).2)) := by
  unfold wnext wmap wheard
  dsimp only
  rw [h2]
  generalize wbit W.ms fl = c
  rw [h1, pl_map, pl_zip]
  exact ⟨rfl, rfl⟩
end Go.Proofs.YtoohmpkhljfpbaaDoor.Mm
/- Plain mathematics of one frame among nodes that have nothing to send; nothing of the program is in it. -/
namespace Go.Proofs.YtoohmpkhljfpbaaDoor.Mm
open Go.Proofs.YtoohmpkhljfpbaaDoor.Bm Go.Proofs.YtoohmpkhljfpbaaDoor.Fm Go.Proofs.YtoohmpkhljfpbaaDoor.Sm Go.Proofs.YtoohmpkhljfpbaaDoor.Cm
set_option linter.unusedVariables false
def oL (f : Fr) : Nat := (outB f).length
/-- who sends, ahead of bit i; who listens -/
def snA (f : Fr) (i : Nat) : St := if i < 3 then pz (3 - i) true f [] false 0 0 else if i < 3 + oL f then tst f [] false 0 0 (i - 3) else if i < 6 + oL f then pz (6 + oL f - i) false f (ackB f) false 0 0 else idS false f (ackB f) false 0 0
def lsA (f : Fr) (i : Nat) : St := if i < 3 then pz (3 - i) false noF [] false 0 0 else if i < 3 + oL f then hs false noF f (i - 3) else if i < 6 + oL f then pz (6 + oL f - i) false noF ((ackB f).take (oL f - 1)) true 0 0 else idS false noF ((ackB f).take (oL f - 1)) true 0 0
def btA (f : Fr) (i : Nat) : Bool := if 3 ≤ i ∧ i < 3 + oL f then (ackB f).getD (i - 3) true else true
def evS (f : Fr) (i : Nat) : List Ev := if i = 3 then [⟨6, noF, 0⟩] else if i + 1 = 3 + oL f then [⟨1, f, 0⟩] else []
def evL (f : Fr) (i : Nat) : List Ev := if i = 3 then [⟨6, noF, 0⟩] else if i + 2 = 3 + oL f then [⟨2, f, 0⟩] else []
theorem sn_step {f : Fr} (hf : isFr f = true) (i : Nat) : sample (snA f i) (btA f i) = (snA f (i + 1), evS f i) := by
  obtain ⟨hL, hL2⟩ := out_len hf
  have hoL : oL f = (outB f).length := rfl
  have hlen : (ackB f).length = oL f := ack_len f
  unfold snA btA evS
  by_cases h3 : i < 3
  · rw [if_pos h3, if_neg (show ¬ (3 ≤ i ∧ i < 3 + oL f) by omega), if_neg (show ¬ i = 3 by omega), if_neg (show ¬ i + 1 = 3 + oL f by omega)]
    by_cases h2 : i = 2
    · subst h2
      rw [if_neg (show ¬ 2 + 1 < 3 by omega), if_pos (show 2 + 1 < 3 + oL f by omega), pz_last]
      rfl
    · rw [if_pos (show i + 1 < 3 by omega), show 3 - i = (1 - i) + 2 by omega, pz_one, show 3 - (i + 1) = 1 - i + 1 by omega]
  · rw [if_neg h3, if_neg (show ¬ i + 1 < 3 by omega)]
    by_cases hl : i < 3 + oL f
    · rw [if_pos hl, if_pos ⟨by omega, hl⟩]
      by_cases hz : i + 1 = 3 + oL f
      · rw [if_neg (show ¬ i + 1 < 3 + oL f by omega), if_pos (by omega), if_neg (by omega), if_pos hz, tst_last hf _ _ _ _ (i - 3) (by omega)]
        have e1 : (ackB f).take (i - 3 + 1) = ackB f := List.take_of_length_le (by omega)
        have e2 : 6 + oL f - (i + 1) = 3 := by omega
        rw [e1, e2]
        rfl
      · rw [if_pos (show i + 1 < 3 + oL f by omega), if_neg hz, tst_bit hf _ _ _ _ (i - 3) (by omega), show i - 3 + 1 = i + 1 - 3 by omega]
        by_cases hi : i = 3
        · subst hi; rfl
        · rw [if_neg (show ¬ i - 3 = 0 by omega), if_neg hi]
    · rw [if_neg hl, if_neg (show ¬ (3 ≤ i ∧ i < 3 + oL f) by omega), if_neg (show ¬ i + 1 < 3 + oL f by omega), if_neg (show ¬ i = 3 by omega), if_neg (show ¬ i + 1 = 3 + oL f by omega)]
      by_cases h6 : i < 6 + oL f
      · rw [if_pos h6]
        by_cases h5 : i + 1 < 6 + oL f
        · rw [if_pos h5, show 6 + oL f - i = (4 + oL f - i) + 2 by omega, pz_one, show 6 + oL f - (i + 1) = 4 + oL f - i + 1 by omega]
        · rw [if_neg h5, show 6 + oL f - i = 1 by omega, pz_last]
      · rw [if_neg h6, if_neg (by omega), idS_one]
theorem ls_step {f : Fr} (hf : isFr f = true) (i : Nat) : sample (lsA f i) (btA f i) = (lsA f (i + 1), evL f i) := by
  obtain ⟨hL, hL2⟩ := out_len hf
  have hoL : oL f = (outB f).length := rfl
  unfold lsA btA evL
  by_cases h3 : i < 3
  · rw [if_pos h3, if_neg (show ¬ (3 ≤ i ∧ i < 3 + oL f) by omega), if_neg (show ¬ i = 3 by omega), if_neg (show ¬ i + 2 = 3 + oL f by omega)]
    by_cases h2 : i = 2
    · subst h2
      rw [if_neg (show ¬ 2 + 1 < 3 by omega), if_pos (show 2 + 1 < 3 + oL f by omega), pz_last]
      rfl
    · rw [if_pos (show i + 1 < 3 by omega), show 3 - i = (1 - i) + 2 by omega, pz_one, show 3 - (i + 1) = 1 - i + 1 by omega]
  · rw [if_neg h3, if_neg (show ¬ i + 1 < 3 by omega)]
    by_cases hl : i < 3 + oL f
    · rw [if_pos hl, if_pos ⟨by omega, hl⟩]
      by_cases hz : i + 1 = 3 + oL f
      · rw [if_neg (show ¬ i + 1 < 3 + oL f by omega), if_pos (by omega), if_neg (by omega), if_neg (by omega), hs_last false noF hf (i - 3) (by omega)]
        rw [show i - 3 + 1 = (outB f).length by omega, hs_end false noF hf, show 6 + oL f - (i + 1) = 3 by omega]
        rfl
      · rw [if_pos (show i + 1 < 3 + oL f by omega)]
        by_cases hi : i = 3
        · subst hi
          rw [if_pos rfl]
          exact hs_zero noF hf
        · rw [if_neg hi, hs_bit false noF hf (i - 3) (by omega) (by omega), show i - 3 + 1 = i + 1 - 3 by omega]
          by_cases h2 : i + 2 = 3 + oL f
          · rw [if_pos h2, if_pos (by omega)]
          · rw [if_neg h2, if_neg (by omega)]
    · rw [if_neg hl, if_neg (show ¬ (3 ≤ i ∧ i < 3 + oL f) by omega), if_neg (show ¬ i + 1 < 3 + oL f by omega), if_neg (show ¬ i = 3 by omega), if_neg (show ¬ i + 2 = 3 + oL f by omega)]
      by_cases h6 : i < 6 + oL f
      · rw [if_pos h6]
        by_cases h5 : i + 1 < 6 + oL f
        · rw [if_pos h5, show 6 + oL f - i = (4 + oL f - i) + 2 by omega, pz_one, show 6 + oL f - (i + 1) = 4 + oL f - i + 1 by omega]
        · rw [if_neg h5, show 6 + oL f - i = 1 by omega, pz_last]
      · rw [if_neg h6, if_neg (by omega), idS_one]
theorem pz_drive (k : Nat) (h : Bool) (f : Fr) (b : List Bool) (tk : Bool) (s g : Int) : drive (pz k h f b tk s g) = true := rfl
theorem idS_drive (f : Fr) (b : List Bool) (tk : Bool) (s g : Int) : drive (idS false f b tk s g) = true := rfl
theorem both_drive {f : Fr} (hf : isFr f = true) (i : Nat) : (drive (snA f i) && drive (lsA f i)) = btA f i := by
  obtain ⟨hL, hL2⟩ := out_len hf
  have hoL : oL f = (outB f).length := rfl
  unfold snA lsA btA
  by_cases h3 : i < 3
  · rw [if_pos h3, if_pos h3, if_neg (by omega), pz_drive, pz_drive]; rfl
  · rw [if_neg h3, if_neg h3]
    by_cases hl : i < 3 + oL f
    · rw [if_pos hl, if_pos hl, if_pos ⟨by omega, hl⟩, tst_drive _ _ _ _ _ hf (by omega), hs_drive false noF hf (i - 3) (by omega) (fun _ => rfl), ack_get f (i - 3) (by omega)]
      by_cases h9 : i - 3 = (outB f).length - 9
      · rw [if_pos h9, decide_eq_true h9]; simp
      · rw [if_neg h9, decide_eq_false h9]; simp
    · rw [if_neg hl, if_neg hl, if_neg (show ¬ (3 ≤ i ∧ i < 3 + oL f) by omega)]
      split <;> rfl
/-- what each has heard ahead of bit i -/
def hS (f : Fr) (i : Nat) : List Ev := if i ≤ 3 then [] else if i < 3 + oL f then [⟨6, noF, 0⟩] else [⟨6, noF, 0⟩, ⟨1, f, 0⟩]
def hL (f : Fr) (i : Nat) : List Ev := if i ≤ 3 then [] else if i + 1 < 3 + oL f then [⟨6, noF, 0⟩] else [⟨6, noF, 0⟩, ⟨2, f, 0⟩]
theorem hS_step {f : Fr} (hf : isFr f = true) (i : Nat) : lst (hS f i ++ evS f i) = hS f (i + 1) := by
  obtain ⟨hL, hL2⟩ := out_len hf
  have hoL : oL f = (outB f).length := rfl
  have e : hS f i ++ evS f i = hS f (i + 1) := by
    unfold hS evS
    by_cases h3 : i = 3
    · subst h3; rw [if_pos (by omega), if_pos rfl, if_neg (by omega), if_pos (by omega)]; rfl
    · rw [if_neg h3]
      by_cases h4 : i ≤ 3
      · rw [if_pos h4, if_pos (show i + 1 ≤ 3 by omega), if_neg (show ¬ i + 1 = 3 + oL f by omega)]; rfl
      · rw [if_neg h4, if_neg (show ¬ i + 1 ≤ 3 by omega)]
        by_cases hz : i + 1 = 3 + oL f
        · rw [if_pos (by omega), if_pos hz, if_neg (by omega)]; rfl
        · rw [if_neg hz]
          by_cases hl : i < 3 + oL f
          · rw [if_pos hl, if_pos (by omega)]; rfl
          · rw [if_neg hl, if_neg (by omega)]; rfl
  rw [e]
  apply lst_id
  unfold hS
  split
  · simp
  · split <;> simp
theorem hL_step {f : Fr} (hf : isFr f = true) (i : Nat) : lst (hL f i ++ evL f i) = hL f (i + 1) := by
  obtain ⟨hL', hL2⟩ := out_len hf
  have hoL : oL f = (outB f).length := rfl
  have e : hL f i ++ evL f i = hL f (i + 1) := by
    unfold hL evL
    by_cases h3 : i = 3
    · subst h3; rw [if_pos (by omega), if_pos rfl, if_neg (by omega), if_pos (by omega)]; rfl
    · rw [if_neg h3]
      by_cases h4 : i ≤ 3
      · rw [if_pos h4, if_pos (show i + 1 ≤ 3 by omega), if_neg (show ¬ i + 2 = 3 + oL f by omega)]; rfl
      · rw [if_neg h4, if_neg (show ¬ i + 1 ≤ 3 by omega)]
        by_cases hz : i + 2 = 3 + oL f
        · rw [if_pos (by omega), if_pos hz, if_neg (by omega)]; rfl
        · rw [if_neg hz]
          by_cases hl : i + 1 < 3 + oL f
          · rw [if_pos hl, if_pos (by omega)]; rfl
          · rw [if_neg hl, if_neg (by omega)]; rfl
  rw [e]
  apply lst_id
  unfold hL
  split
  · simp
  · split <;> simp
/-- The wire behind i bits: node s sends f, all others listen. -/
def One (f : Fr) (n s i : Nat) (W : Wi) : Prop := W.ms = pl n s (snA f i) (lsA f i) ∧ W.hs = pl n s (hS f i) (hL f i) ∧ W.bs.length = i
theorem one_start {f : Fr} (hf : isFr f = true) (n s : Nat) (hs : s < n) (qs : List Nat) (qb : Nat) : ∃ W', wask (wnew n qs qb) (s : Int) f = (0, W') ∧ One f n s 0 W' ∧ W'.qs = qs ∧ W'.qb = qb := by
  have hl : (wnew n qs qb).ms.length = n := by show (List.replicate n fresh).length = n; simp
  unfold wask
  rw [if_pos ⟨by omega, by rw [hl]; omega⟩]
  have hg : (wnew n qs qb).ms.getD (s : Int).toNat fresh = fresh := by show (List.replicate n fresh).getD s fresh = fresh; simp [List.getD_eq_getElem?_getD, hs]
  rw [hg]
  have ha : ask fresh f = (0, snA f 0) := by
    unfold ask
    rw [if_neg (by intro k; cases k), if_neg (by rw [hf]; decide)]
    rfl
  rw [ha]
  refine ⟨_, rfl, ⟨?_, ?_, rfl⟩, rfl, rfl⟩
  · show (List.replicate n fresh).set s (snA f 0) = _
    rw [← pl_same n s fresh, pl_set]
    rfl
  · show List.replicate n [] = _
    rw [← pl_same n s]
    rfl
theorem one_step {f : Fr} (hf : isFr f = true) {n s i : Nat} (hs : s < n) (hn : 2 ≤ n) {W : Wi} (h : One f n s i W) : wbit W.ms false = btA f i ∧ One f n s (i + 1) (wnext W false) ∧ wtold W false = (pl n s (evS f i) (evL f i)).flatten := by
  obtain ⟨h1, h2, h3⟩ := h
  have hb : wbit W.ms false = btA f i := by
    unfold wbit
    rw [h1, pl_all drive n s _ _ hs hn, both_drive hf]
    cases btA f i <;> rfl
  obtain ⟨k1, k2⟩ := wnext_pl h1 h2 false
  rw [hb, sn_step hf, ls_step hf] at k1 k2
  refine ⟨hb, ⟨k1, ?_, ?_⟩, ?_⟩
  · rw [k2, hS_step hf, hL_step hf]
  · show (W.bs ++ [wbit W.ms false]).length = i + 1
    rw [List.length_append, h3]; rfl
  · unfold wtold wevs
    rw [hb, h1, pl_flat, sn_step hf, ls_step hf]
end Go.Proofs.YtoohmpkhljfpbaaDoor.Mm
/- Plain mathematics of two nodes on a wire of which nobody sends: idle again some bits later; nothing of the program is in it. -/
namespace Go.Proofs.YtoohmpkhljfpbaaDoor.Mm
open Go.Proofs.YtoohmpkhljfpbaaDoor.Bm Go.Proofs.YtoohmpkhljfpbaaDoor.Fm Go.Proofs.YtoohmpkhljfpbaaDoor.Sm Go.Proofs.YtoohmpkhljfpbaaDoor.Cm
set_option linter.unusedVariables false
def oner (r : Nat × Bool) : Nat := if r.2 = true then r.1 else 0
def zer (r : Nat × Bool) : Nat := if r.2 = false then r.1 else 0
theorem within_zero {s : Rd} {c : Bool} (h : (within s c).1 = 0) : (within s c).2.r = Sm.step s.r c ∧ (Sm.step s.r c).1 ≠ 6 ∧ ((within s c).2.t = none ∨ (within s c).2.t = some 0) := by
  unfold within at *
  repeat' split at h
  all_goals simp_all
theorem behind_some (s : Rd) (t : Nat) (c : Bool) : (behind s t c).2.r = s.r ∧ (behind s t c).2.t = some (t + 1) := by
  unfold behind
  repeat' split
  all_goals exact ⟨rfl, rfl⟩
theorem behind_ten {s : Rd} {t : Nat} {c : Bool} (h : (behind s t c).1 = 0) : t + 1 ≠ 10 := by
  intro k
  unfold behind at h
  rw [if_neg (show ¬ (t + 1 = 3 ∧ _) by rintro ⟨h, _⟩; omega), if_pos k] at h
  split at h <;> cases h
theorem bit_none {s : Rd} (h : s.t = none) (c : Bool) : bit s c = within s c := by unfold bit; rw [h]
theorem bit_some {s : Rd} {t : Nat} (h : s.t = some t) (c : Bool) : bit s c = behind s t c := by unfold bit; rw [h]
theorem step_le (r : Nat × Bool) (c : Bool) : (Sm.step r c).1 ≤ r.1 + 1 := by unfold Sm.step; split <;> simp
/-- what a reader that met no error holds -/
theorem good_hold : ∀ (n : Nat) (a : List Bool), a.length = n → Good a → (feed a).r.1 ≤ 5 ∧ ∀ t, (feed a).t = some t → t ≤ 9 := by
  intro n
  induction n with
  | zero =>
    intro a h _
    have : a = [] := List.length_eq_zero_iff.1 h
    subst this
    exact ⟨Nat.zero_le _, fun t k => by cases k⟩
  | succ n ih =>
    intro a hl hg
    rcases List.eq_nil_or_concat a with h | ⟨b, c, h⟩
    · subst h; cases hl
    · rw [List.concat_eq_append] at h
      subst h
      have hb := good_front hg
      have h0 := (good_snoc hb).1 hg
      obtain ⟨i1, i2⟩ := ih b (by simpa using hl) hb
      rw [feed_snoc]
      unfold code at h0
      rcases ht : (feed b).t with _ | t
      · rw [bit_none ht] at h0 ⊢
        obtain ⟨w1, w2, w3⟩ := within_zero h0
        have := step_le (feed b).r c
        rw [w1]
        refine ⟨by omega, fun t k => ?_⟩
        rcases w3 with w3 | w3
        · rw [w3] at k; cases k
        · rw [w3] at k; injection k with k; omega
      · rw [bit_some ht] at h0 ⊢
        obtain ⟨b1, b2⟩ := behind_some (feed b) t c
        have := behind_ten h0
        have := i2 t ht
        rw [b1, b2]
        refine ⟨i1, fun u k => ?_⟩
        injection k with k
        omega
/-- bits that are left at most -/
def phi (s : Rd) : Nat := match s.t with | some t => 11 - t | none => 17 - oner s.r
def tau (m : St) : Nat := match m.ph with
  | .idle => 0
  | .pause => m.left
  | .reco => if m.first then 11 else m.left + 3
  | .flag => m.left + 11
  | .inFr => if m.tk then 4 else 17 + phi (feed m.bits)
  | .off => 0
theorem oner_step (r : Nat × Bool) : oner (Sm.step r true) = oner r + 1 := by
  obtain ⟨n, b⟩ := r
  unfold oner Sm.step
  cases b
  · simp
  · by_cases h : 0 < n
    · simp [h]
    · have : n = 0 := by omega
      subst this
      rfl
theorem phi_pos {a : List Bool} (hg : Good a) (ht : (feed a).t ≠ some 11) : 0 < phi (feed a) := by
  obtain ⟨h1, h2⟩ := good_hold _ a rfl hg
  unfold phi
  rcases k : (feed a).t with _ | t
  · have : oner (feed a).r ≤ (feed a).r.1 := by unfold oner; split <;> omega
    dsimp only
    omega
  · have := h2 t k
    dsimp only
    omega
theorem phi_less {a : List Bool} (hg : Good a) {c : Bool} (h0 : code a c = 0) (hc : (feed a).t = none → c = true) : phi (feed (a ++ [c])) < phi (feed a) := by
  obtain ⟨h1, h2⟩ := good_hold _ a rfl hg
  rw [feed_snoc]
  unfold code at h0
  rcases ht : (feed a).t with _ | t
  · have hc1 := hc ht
    subst hc1
    rw [bit_none ht] at h0 ⊢
    obtain ⟨w1, w2, w3⟩ := within_zero h0
    have ho : oner (feed a).r ≤ (feed a).r.1 := by unfold oner; split <;> omega
    have hs := oner_step (feed a).r
    unfold phi
    rw [ht]
    rcases w3 with w3 | w3
    · rw [w3, w1, hs]; dsimp only; omega
    · rw [w3]; dsimp only; omega
  · rw [bit_some ht] at h0 ⊢
    obtain ⟨b1, b2⟩ := behind_some (feed a) t c
    have := h2 t ht
    unfold phi
    rw [ht, b2]
    dsimp only
    omega
/-- a listener's own bit -/
theorem lis_own {m : St} (hp : m.ph = .inFr) (hs : m.snd = false) (ht : (feed m.bits).t = none) : drive m = true := by
  unfold drive
  rw [hp]
  dsimp only
  rw [hs, if_neg (by decide), ht]
  rfl
theorem tau_hear {m : St} (hO : Ok m) (hp : m.ph = .inFr) (hs : m.snd = false) (ho : Km.offC m.cs = false) : tau (hearing m (drive m)).1 < tau m := by
  have hg := (hO.good hp).1
  have et : tau m = if m.tk then 4 else 17 + phi (feed m.bits) := by unfold tau; rw [hp]
  rw [et]
  unfold hearing
  by_cases htk : m.tk = true
  · rw [if_pos htk, if_pos htk]
    show 3 < 4
    decide
  · rw [if_neg htk, if_neg htk]
    have hn9 : (feed m.bits).t ≠ some 9 := fun k => htk ((hO.lis hp hs).2 k)
    by_cases h0 : code m.bits (drive m) = 0
    · rw [if_neg (not_not_intro h0)]
      by_cases h9 : (feed (m.bits ++ [drive m])).t = some 9
      · rw [if_pos h9]
        show (match m.ph with | .idle => 0 | .pause => m.left | .reco => if m.first then 11 else m.left + 3 | .flag => m.left + 11 | .inFr => if true then 4 else 17 + phi (feed (m.bits ++ [drive m])) | .off => 0) < _
        rw [hp]
        show 4 < _
        omega
      · rw [if_neg h9]
        have := phi_less hg h0 (fun k => lis_own hp hs k)
        have e : tau { m with bits := m.bits ++ [drive m] } = 17 + phi (feed (m.bits ++ [drive m])) := by
          unfold tau
          dsimp only
          rw [hp]
          dsimp only
          rw [if_neg htk]
        show tau { m with bits := m.bits ++ [drive m] } < _
        rw [e]
        omega
    · rw [if_pos h0]
      have hpp := phi_pos hg (fun k => by have := (good_hold _ m.bits rfl hg).2 11 k; omega)
      unfold bad
      dsimp only
      rw [ho]
      show 6 + 11 < 17 + phi (feed m.bits)
      omega
/-- Two nodes that nobody could tell apart, but for what waits. -/
structure Al (x y : St) : Prop where
  okx : Ok x
  oky : Ok y
  ofx : Km.offC x.cs = false
  ofy : Km.offC y.cs = false
  no : x.ph ≠ .off
  sx : x.snd = false
  sy : y.snd = false
  ph : x.ph = y.ph
  lf : x.ph ≠ .inFr → x.ph ≠ .idle → x.left = y.left
  fi : x.ph = .reco → x.first = y.first
  fr : x.ph = .inFr → x.bits = y.bits ∧ x.tk = y.tk
def pst (p : St × St) (fl : Bool) : St × St := ((sample p.1 ((drive p.1 && drive p.2) != fl)).1, (sample p.2 ((drive p.1 && drive p.2) != fl)).1)
def prun : Nat → St × St → St × St
  | 0, p => p
  | n + 1, p => prun n (pst p false)
theorem prun_add (a b : Nat) (p : St × St) : prun (a + b) p = prun b (prun a p) := by
  induction a generalizing p with
  | zero => rw [Nat.zero_add]; rfl
  | succ a ih => rw [Nat.succ_add]; exact ih (pst p false)
/-- Both idle, nothing waits. -/
def Quiet (p : St × St) : Prop := p.1.ph = .idle ∧ p.1.has = false ∧ p.2.ph = .idle ∧ p.2.has = false
theorem quiet_step {p : St × St} (h : Quiet p) : pst p false = p := by
  obtain ⟨h1, h2, h3, h4⟩ := h
  have d1 : drive p.1 = true := by rw [idle_drive h1, h2]; rfl
  have d2 : drive p.2 = true := by rw [idle_drive h3, h4]; rfl
  unfold pst
  rw [d1, d2]
  show ((sample p.1 true).1, (sample p.2 true).1) = p
  rw [idle_one h1, idle_one h3]
theorem quiet_run {p : St × St} (h : Quiet p) (n : Nat) : prun n p = p := by
  induction n with
  | zero => rfl
  | succ n ih => show prun n (pst p false) = p; rw [quiet_step h]; exact ih
def Rch (r : Nat) (p : St × St) : Prop := Quiet (prun r p)
theorem Rch.more {r s : Nat} {p : St × St} (h : Rch r p) (hs : r ≤ s) : Rch s p := by
  unfold Rch at *
  obtain ⟨k, rfl⟩ : ∃ k, s = r + k := ⟨s - r, by omega⟩
  rw [prun_add, quiet_run h]
  exact h
theorem Rch.from {k r : Nat} {p : St × St} (h : Rch r (prun k p)) : Rch (k + r) p := by unfold Rch at *; rw [prun_add]; exact h
/-- what a bit leaves of a node that doesn't send, is neither idle nor off -/
theorem own_keep {m : St} (c : Bool) (hO : Ok m) (ho : Km.offC m.cs = false) (hs : m.snd = false) (hi : m.ph ≠ .idle) (hf : m.ph ≠ .off) (hc : m.ph = .pause → c = true) : (sample m c).1.has = m.has ∧ (sample m c).1.f = m.f ∧ (sample m c).1.snd = false ∧ (sample m c).1.cs = m.cs ∧ (sample m c).1.ph ≠ .off := by
  unfold sample
  cases hp : m.ph
  · exact absurd hp hi
  · dsimp only
    rw [hs, if_neg (by decide)]
    unfold hearing bad
    split
    · exact ⟨rfl, rfl, hs, rfl, by intro k; cases k⟩
    · split
      · dsimp only
        rw [ho]
        exact ⟨rfl, rfl, rfl, rfl, by intro k; cases k⟩
      · split
        · exact ⟨rfl, rfl, hs, rfl, by show m.ph ≠ _; rw [hp]; intro k; cases k⟩
        · exact ⟨rfl, rfl, hs, rfl, by show m.ph ≠ _; rw [hp]; intro k; cases k⟩
  · dsimp only
    split
    · exact ⟨rfl, rfl, hs, rfl, by intro k; cases k⟩
    · exact ⟨rfl, rfl, hs, rfl, by intro k; cases k⟩
  · dsimp only
    unfold recover
    split
    · exact ⟨rfl, rfl, hs, rfl, by show m.ph ≠ _; rw [hp]; intro k; cases k⟩
    · split
      · exact ⟨rfl, rfl, hs, rfl, by show m.ph ≠ _; rw [hp]; intro k; cases k⟩
      · split
        · exact ⟨rfl, rfl, hs, rfl, by intro k; cases k⟩
        · exact ⟨rfl, rfl, hs, rfl, by show m.ph ≠ _; rw [hp]; intro k; cases k⟩
  · have hc1 := hc hp
    subst hc1
    dsimp only
    rw [if_neg (by decide)]
    split
    · exact ⟨rfl, rfl, hs, rfl, by intro k; cases k⟩
    · exact ⟨rfl, rfl, hs, rfl, by intro k; cases k⟩
  · exact absurd hp hf
end Go.Proofs.YtoohmpkhljfpbaaDoor.Mm
/- Plain mathematics of two nodes on a wire of which nobody sends: they go on alike; nothing of the program is in it. -/
namespace Go.Proofs.YtoohmpkhljfpbaaDoor.Mm
open Go.Proofs.YtoohmpkhljfpbaaDoor.Bm Go.Proofs.YtoohmpkhljfpbaaDoor.Fm Go.Proofs.YtoohmpkhljfpbaaDoor.Sm Go.Proofs.YtoohmpkhljfpbaaDoor.Cm
set_option linter.unusedVariables false
theorem smp_reco {m : St} (h : m.ph = .reco) (c : Bool) : sample m c = (recover m c, []) := by unfold sample; rw [h]
theorem smp_flag {m : St} (h : m.ph = .flag) (c : Bool) : sample m c = if m.left = 1 then ({ m with ph := .reco, left := 7, first := true }, []) else ({ m with left := m.left - 1 }, []) := by unfold sample; rw [h]
theorem smp_hear {m : St} (h : m.ph = .inFr) (hs : m.snd = false) (c : Bool) : sample m c = hearing m c := by unfold sample; rw [h]; dsimp only; rw [hs, if_neg (by decide)]
theorem drv_reco {m : St} (h : m.ph = .reco) : drive m = true := by unfold drive; rw [h]
theorem drv_pause {m : St} (h : m.ph = .pause) : drive m = true := by unfold drive; rw [h]
theorem drv_hear {x y : St} (h : x.ph = .inFr) (h' : y.ph = .inFr) (hs : x.snd = false) (hs' : y.snd = false) (hb : x.bits = y.bits) : drive x = drive y := by
  unfold drive
  rw [h, h']
  dsimp only
  rw [hs, hs', hb]
  rfl
/-- hearing: nodes that read the same -/
theorem hear_alike {x y : St} (c : Bool) (hx : x.ph = .inFr) (hy : y.ph = .inFr) (ox : Km.offC x.cs = false) (oy : Km.offC y.cs = false) (hb : x.bits = y.bits) (ht : x.tk = y.tk) :
    (hearing x c).1.ph = (hearing y c).1.ph ∧ ((hearing x c).1.ph ≠ .inFr → (hearing x c).1.left = (hearing y c).1.left) ∧ (hearing x c).1.ph ≠ .reco ∧ ((hearing x c).1.ph = .inFr → (hearing x c).1.bits = (hearing y c).1.bits ∧ (hearing x c).1.tk = (hearing y c).1.tk) := by
  unfold hearing bad
  rw [← hb, ← ht]
  split
  · exact ⟨rfl, fun _ => rfl, (by intro k; cases k), fun k => (by cases k)⟩
  · next htk =>
    split
    · dsimp only
      rw [ox, oy]
      exact ⟨rfl, fun _ => rfl, (by intro k; cases k), fun k => (by cases k)⟩
    · split
      · exact ⟨by show x.ph = y.ph; rw [hx, hy], fun k => absurd hx k, (by show x.ph ≠ _; rw [hx]; intro k; cases k), fun _ => ⟨rfl, rfl⟩⟩
      · refine ⟨by show x.ph = y.ph; rw [hx, hy], fun k => absurd hx k, (by show x.ph ≠ _; rw [hx]; intro k; cases k), fun _ => ⟨rfl, rfl⟩⟩
theorem rec_first {m : St} (h : m.first = true) : recover m true = { m with first := false } := by unfold recover; rw [h, if_pos rfl]; rfl
theorem rec_one {m : St} (h : m.first = false) (h1 : m.left = 1) : recover m true = { m with ph := .pause, left := 3 } := by unfold recover; rw [if_neg (by rw [h]; decide), if_neg (by decide), if_pos h1]
theorem rec_more {m : St} (h : m.first = false) (h1 : m.left ≠ 1) : recover m true = { m with left := m.left - 1 } := by unfold recover; rw [if_neg (by rw [h]; decide), if_neg (by decide), if_neg h1]
theorem al_step {x y : St} (h : Al x y) (hi : x.ph ≠ .idle) : ∃ x' y', pst (x, y) false = (x', y') ∧ Al x' y' ∧ tau x' < tau x ∧ x'.has = x.has ∧ x'.f = x.f ∧ y'.has = y.has := by
  have hiy : y.ph ≠ .idle := h.ph ▸ hi
  have hny : y.ph ≠ .off := h.ph ▸ h.no
  obtain ⟨c, hc⟩ : ∃ c, ((drive x && drive y) != false) = c := ⟨_, rfl⟩
  have hpc : x.ph = .pause → c = true := fun k => by rw [← hc, drv_pause k, drv_pause (h.ph ▸ k)]; rfl
  have hpc' : y.ph = .pause → c = true := fun k => hpc (h.ph.trans k)
  obtain ⟨kx1, kx2, kx3, kx4, kx5⟩ := own_keep c h.okx h.ofx h.sx hi h.no hpc
  obtain ⟨ky1, ky2, ky3, ky4, ky5⟩ := own_keep c h.oky h.ofy h.sy hiy hny hpc'
  have okx := ok_sample h.okx c
  have oky := ok_sample h.oky c
  have fin : ((sample x c).1.ph = (sample y c).1.ph ∧ ((sample x c).1.ph ≠ .inFr → (sample x c).1.ph ≠ .idle → (sample x c).1.left = (sample y c).1.left) ∧ ((sample x c).1.ph = .reco → (sample x c).1.first = (sample y c).1.first) ∧ ((sample x c).1.ph = .inFr → (sample x c).1.bits = (sample y c).1.bits ∧ (sample x c).1.tk = (sample y c).1.tk)) ∧ tau (sample x c).1 < tau x := by
    cases hp : x.ph
    · exact absurd hp hi
    · have hy : y.ph = .inFr := h.ph ▸ hp
      obtain ⟨hb, ht⟩ := h.fr hp
      have hd := drv_hear hp hy h.sx h.sy hb
      have hcd : c = drive x := by rw [← hc, ← hd]; cases drive x <;> rfl
      rw [smp_hear hp h.sx, smp_hear hy h.sy]
      obtain ⟨a1, a2, a3, a4⟩ := hear_alike c hp hy h.ofx h.ofy hb ht
      refine ⟨⟨a1, fun k _ => a2 k, fun k => absurd k a3, a4⟩, ?_⟩
      rw [hcd]
      exact tau_hear h.okx hp h.sx h.ofx
    · have hy : y.ph = .flag := h.ph ▸ hp
      have hl := h.lf (by rw [hp]; intro k; cases k) (by rw [hp]; intro k; cases k)
      have hL := h.okx.flag hp
      rw [smp_flag hp, smp_flag hy, ← hl]
      have et : tau x = x.left + 11 := by unfold tau; rw [hp]
      rw [et]
      by_cases h1 : x.left = 1
      · rw [if_pos h1, if_pos h1]
        exact ⟨⟨rfl, fun _ _ => rfl, fun _ => rfl, fun k => by cases k⟩, by show 11 < _; omega⟩
      · rw [if_neg h1, if_neg h1]
        refine ⟨⟨by show x.ph = y.ph; exact h.ph, fun _ _ => rfl, fun k => (by have k' : x.ph = _ := k; rw [hp] at k'; cases k'), fun k => (by have k' : x.ph = _ := k; rw [hp] at k'; cases k')⟩, ?_⟩
        have e : tau { x with left := x.left - 1 } = x.left - 1 + 11 := by unfold tau; dsimp only; rw [hp]
        show tau { x with left := x.left - 1 } < _
        rw [e]; omega
    · have hy : y.ph = .reco := h.ph ▸ hp
      have hl := h.lf (by rw [hp]; intro k; cases k) (by rw [hp]; intro k; cases k)
      have hfi := h.fi hp
      have hL := h.okx.reco hp
      have hcd : c = true := by rw [← hc, drv_reco hp, drv_reco hy]; rfl
      subst hcd
      rw [smp_reco hp, smp_reco hy]
      have et : tau x = if x.first then 11 else x.left + 3 := by unfold tau; rw [hp]
      rw [et]
      cases hf : x.first
      · have hf' : y.first = false := hfi ▸ hf
        rw [if_neg (by decide)]
        by_cases h1 : x.left = 1
        · rw [rec_one hf h1, rec_one hf' (hl ▸ h1)]
          exact ⟨⟨rfl, fun _ _ => rfl, fun k => (by cases k), fun k => (by cases k)⟩, by show 3 < _; omega⟩
        · rw [rec_more hf h1, rec_more hf' (hl ▸ h1)]
          refine ⟨⟨h.ph, fun _ _ => (by show x.left - 1 = y.left - 1; rw [hl]), fun _ => hfi, fun k => (by have k' : x.ph = _ := k; rw [hp] at k'; cases k')⟩, ?_⟩
          have e : tau { x with left := x.left - 1 } = x.left - 1 + 3 := by unfold tau; dsimp only; rw [hp]; dsimp only; rw [hf]; rfl
          show tau { x with left := x.left - 1 } < _
          rw [e]; omega
      · have hf' : y.first = true := hfi ▸ hf
        rw [if_pos rfl, rec_first hf, rec_first hf']
        refine ⟨⟨h.ph, fun _ _ => hl, fun _ => rfl, fun k => (by have k' : x.ph = _ := k; rw [hp] at k'; cases k')⟩, ?_⟩
        have e : tau { x with first := false } = x.left + 3 := by unfold tau; dsimp only; rw [hp]; rfl
        show tau { x with first := false } < _
        rw [e]; omega
    · have hy : y.ph = .pause := h.ph ▸ hp
      have hl := h.lf (by rw [hp]; intro k; cases k) (by rw [hp]; intro k; cases k)
      have hL := h.okx.pause hp
      have hcd := hpc hp
      subst hcd
      rw [pause_one hp, pause_one hy, ← hl]
      have et : tau x = x.left := by unfold tau; rw [hp]
      rw [et]
      by_cases h1 : x.left = 1
      · rw [if_pos h1, if_pos h1]
        exact ⟨⟨rfl, fun _ k => absurd rfl k, fun k => (by cases k), fun k => by cases k⟩, by show 0 < _; omega⟩
      · rw [if_neg h1, if_neg h1]
        refine ⟨⟨by show x.ph = y.ph; exact h.ph, fun _ _ => rfl, fun k => (by have k' : x.ph = _ := k; rw [hp] at k'; cases k'), fun k => (by have k' : x.ph = _ := k; rw [hp] at k'; cases k')⟩, ?_⟩
        have e : tau { x with left := x.left - 1 } = x.left - 1 := by unfold tau; dsimp only; rw [hp]
        show tau { x with left := x.left - 1 } < _
        rw [e]; omega
    · exact absurd hp h.no
  obtain ⟨⟨f1, f2, f3, f4⟩, f5⟩ := fin
  refine ⟨(sample x c).1, (sample y c).1, ?_, ⟨okx, oky, by rw [kx4]; exact h.ofx, by rw [ky4]; exact h.ofy, kx5, kx3, ky3, f1, f2, f3, f4⟩, f5, kx1, kx2, ky1⟩
  unfold pst
  rw [hc]
theorem al_run : ∀ (n : Nat) (x y : St), Al x y → tau x ≤ n → ∃ k x' y', k ≤ n ∧ prun k (x, y) = (x', y') ∧ Al x' y' ∧ x'.ph = .idle ∧ x'.has = x.has ∧ x'.f = x.f ∧ y'.has = y.has := by
  intro n
  induction n with
  | zero =>
    intro x y h ht
    by_cases hi : x.ph = .idle
    · exact ⟨0, x, y, Nat.le_refl _, rfl, h, hi, rfl, rfl, rfl⟩
    · obtain ⟨x', y', _, _, h3, _⟩ := al_step h hi
      omega
  | succ n ih =>
    intro x y h ht
    by_cases hi : x.ph = .idle
    · exact ⟨0, x, y, Nat.zero_le _, rfl, h, hi, rfl, rfl, rfl⟩
    · obtain ⟨x', y', h1, h2, h3, h4, h5, h6⟩ := al_step h hi
      obtain ⟨k, x2, y2, g1, g2, g3, g4, g5, g6, g7⟩ := ih x' y' h2 (by omega)
      exact ⟨k + 1, x2, y2, by omega, by show prun k (pst (x, y) false) = _; rw [h1]; exact g2, g3, g4, g5.trans h4, g6.trans h5, g7.trans h6⟩
theorem tau_le {x y : St} (h : Al x y) : tau x ≤ 34 := by
  unfold tau
  cases hp : x.ph
  · exact Nat.zero_le _
  · dsimp only
    split
    · omega
    · have : phi (feed x.bits) ≤ 17 := by unfold phi; split <;> omega
      omega
  · have := h.okx.flag hp; dsimp only; omega
  · have := h.okx.reco hp; dsimp only; split <;> omega
  · have := h.okx.pause hp; dsimp only; omega
  · exact Nat.zero_le _
theorem al_quiet {x y : St} (h : Al x y) (hx : x.has = false) (hy : y.has = false) : Rch 34 (x, y) := by
  obtain ⟨k, x', y', h1, h2, h3, h4, h5, _, h7⟩ := al_run 34 x y h (tau_le h)
  have hq : Rch k (x, y) := by unfold Rch; rw [h2]; exact ⟨h4, h5.trans hx, h3.ph ▸ h4, h7.trans hy⟩
  exact hq.more h1
end Go.Proofs.YtoohmpkhljfpbaaDoor.Mm
/- Plain mathematics of two nodes on a wire: a frame, an error that one of them meets first; nothing of the program is in it. -/
namespace Go.Proofs.YtoohmpkhljfpbaaDoor.Mm
open Go.Proofs.YtoohmpkhljfpbaaDoor.Bm Go.Proofs.YtoohmpkhljfpbaaDoor.Fm Go.Proofs.YtoohmpkhljfpbaaDoor.Sm Go.Proofs.YtoohmpkhljfpbaaDoor.Cm
set_option linter.unusedVariables false
theorem bad_has (m : St) (e : Ev) (h : m.has = false) : (bad m e).1.has = false := by
  unfold bad
  split
  · rfl
  · exact h
theorem hear_has (m : St) (c : Bool) (h : m.has = false) : (hearing m c).1.has = false := by
  unfold hearing
  split
  · exact h
  · split
    · exact bad_has _ _ h
    · split
      · exact h
      · exact h
theorem has_down (m : St) (c : Bool) (h : m.has = false) : (sample m c).1.has = false := by
  unfold sample
  cases hp : m.ph
  · dsimp only
    split
    · exact h
    · unfold start
      dsimp only
      split
      · rfl
      · exact h
  · dsimp only
    split
    · unfold sending
      split
      · exact hear_has { m with snd := false } c h
      · split
        · exact bad_has _ _ h
        · split
          · exact bad_has _ _ h
          · split
            · exact h
            · exact h
    · exact hear_has m c h
  · dsimp only
    split
    · exact h
    · exact h
  · dsimp only
    unfold recover
    split
    · exact h
    · split
      · exact h
      · split
        · exact h
        · exact h
  · dsimp only
    split
    · unfold start
      dsimp only
      rw [if_neg (by decide)]
      exact h
    · split
      · exact h
      · exact h
  · exact h
theorem pause_quiet : ∀ (k : Nat) (x y : St), x.ph = .pause → x.left = k + 1 → x.has = false → y.ph = .pause → y.left = k + 1 → y.has = false → Rch (k + 1) (x, y) := by
  intro k
  induction k with
  | zero =>
    intro x y h1 h2 h3 h4 h5 h6
    show Quiet (pst (x, y) false)
    unfold pst
    dsimp only
    rw [drv_pause h1, drv_pause h4]
    show Quiet ((sample x true).1, (sample y true).1)
    rw [pause_one h1, pause_one h4, if_pos h2, if_pos h5]
    exact ⟨rfl, h3, rfl, h6⟩
  | succ k ih =>
    intro x y h1 h2 h3 h4 h5 h6
    show Quiet (prun (k + 1) (pst (x, y) false))
    have e : pst (x, y) false = ({ x with left := x.left - 1 }, { y with left := y.left - 1 }) := by
      unfold pst
      dsimp only
      rw [drv_pause h1, drv_pause h4]
      show ((sample x true).1, (sample y true).1) = _
      rw [pause_one h1, pause_one h4, if_neg (by omega), if_neg (by omega)]
    rw [e]
    exact ih _ _ h1 (by show x.left - 1 = _; omega) h3 h4 (by show y.left - 1 = _; omega) h6
/-- both see the frame's bit -/
theorem pair_bit {f : Fr} (hf : isFr f = true) {i : Nat} (hi : i < (outB f).length) {x y : St} (hx : Win f i x) (hy : Thi f i y) : (drive x && drive y) = wire f i := by
  have hL := (out_len hf).1
  obtain ⟨d1, _⟩ := win_step hf hi hx
  obtain ⟨d2, _⟩ := thi_step hf hi hy
  rw [d1, d2]
  unfold wire
  by_cases h0 : i = 0
  · subst h0; exact (wire_zero hf).symm
  · rw [if_neg h0, if_neg h0, ack_get f i hi]
    by_cases h9 : i + 9 = (outB f).length
    · rw [if_pos (by omega), decide_eq_true h9]; simp
    · rw [if_neg (by omega), decide_eq_false h9]; simp
theorem pst_bit {p : St × St} {c : Bool} (h : (drive p.1 && drive p.2) = c) : pst p false = ((sample p.1 c).1, (sample p.2 c).1) := by
  unfold pst
  rw [h]
  cases c <;> rfl
theorem frame_run {f : Fr} (hf : isFr f = true) : ∀ (i : Nat), i < (outB f).length → ∀ (x y : St), Win f 0 x → Thi f 0 y → Ok x → y.has = false → ∃ x' y', prun i (x, y) = (x', y') ∧ Win f i x' ∧ Thi f i y' ∧ Ok x' ∧ y'.has = false := by
  intro i
  induction i with
  | zero => intro _ x y h1 h2 h3 h4; exact ⟨x, y, rfl, h1, h2, h3, h4⟩
  | succ i ih =>
    intro hi x y h1 h2 h3 h4
    obtain ⟨x', y', g1, g2, g3, g4, g5⟩ := ih (by omega) x y h1 h2 h3 h4
    have hb := pair_bit hf (by omega) g2 g3
    obtain ⟨_, x2, s1, w1⟩ := win_step hf (by omega) g2
    obtain ⟨_, y2, s2, w2⟩ := thi_step hf (by omega) g3
    refine ⟨x2, y2, ?_, w1, w2, ?_, ?_⟩
    · rw [prun_add i 1, g1]
      show pst (x', y') false = _
      rw [pst_bit hb]
      dsimp only
      rw [s1, s2]
    · have := ok_sample g4 (wire f i); rw [s1] at this; exact this
    · have := has_down y' (wire f i) g5; rw [s2] at this; exact this
theorem frame_quiet {f : Fr} (hf : isFr f = true) {x y : St} (h1 : Win f 0 x) (h2 : Thi f 0 y) (h3 : Ok x) (h4 : y.has = false) : Rch ((outB f).length + 3) (x, y) := by
  have hL := (out_len hf).1
  obtain ⟨x', y', g1, g2, g3, g4, g5⟩ := frame_run hf ((outB f).length - 1) (by omega) x y h1 h2 h3 h4
  have hb := pair_bit hf (by omega) g2 g3
  unfold Win at g2
  rw [if_neg (by omega)] at g2
  obtain ⟨a1, a2, a3, a4⟩ := g2 (by omega)
  unfold Thi Lis at g3
  rw [if_neg (by omega)] at g3
  obtain ⟨b1, b2, b3, b4⟩ := g3 (by omega)
  have hh : x'.has = false := by
    cases k : x'.has
    · rfl
    · have := (g4.has k).2.1; rw [a2] at this; cases this
  have sx := snd_bit hf a1 a2 a3 a4 (by omega)
  have sy := lis_end b1 b2 (by rw [b4]; exact decide_eq_true (by omega)) (wire f ((outB f).length - 1))
  rw [if_pos (by omega)] at sx
  have e : prun (outB f).length (x, y) = ((sample x' (wire f ((outB f).length - 1))).1, (sample y' (wire f ((outB f).length - 1))).1) := by
    have : (outB f).length = ((outB f).length - 1) + 1 := by omega
    rw [this, prun_add, g1]
    show pst (x', y') false = _
    rw [pst_bit hb]
    rw [← this]
  refine Rch.from ?_
  rw [e]
  have hx2 := has_down x' (wire f ((outB f).length - 1)) hh
  have hy2 := has_down y' (wire f ((outB f).length - 1)) g5
  refine pause_quiet 2 _ _ ?_ ?_ hx2 ?_ ?_ hy2
  · unfold wire; rw [sx]
  · unfold wire; rw [sx]
  · rw [sy]
  · rw [sy]
/-- alike, with a frame that waits at the first -/
theorem al_frame {f : Fr} (hf : isFr f = true) {x y : St} (h : Al x y) (hx : x.has = true) (hfx : x.f = f) (hy : y.has = false) : Rch (34 + ((outB f).length + 3)) (x, y) := by
  obtain ⟨k, x', y', h1, h2, h3, h4, h5, h6, h7⟩ := al_run 34 x y h (tau_le h)
  have hq := frame_quiet hf (x := x') (y := y') (by unfold Win; rw [if_pos rfl]; exact ⟨h4, h5.trans hx, h6.trans hfx⟩) (by unfold Thi; rw [if_pos rfl]; exact ⟨h3.ph ▸ h4, h7.trans hy⟩) h3.okx (h7.trans hy)
  have : Rch (k + ((outB f).length + 3)) (x, y) := Rch.from (by rw [h2]; exact hq)
  exact this.more (by omega)
/-- zeros until an error is met, at most -/
def zeta (s : Rd) : Nat := match s.t with | some t => if t = 1 then 2 else 1 | none => 6 - zer s.r
theorem zer_step (r : Nat × Bool) : zer (Sm.step r false) = zer r + 1 := by
  obtain ⟨n, b⟩ := r
  unfold zer Sm.step
  cases b
  · by_cases h : 0 < n
    · simp [h]
    · have : n = 0 := by omega
      subst this
      rfl
  · simp
theorem zeta_less {a : List Bool} (hg : Good a) (h0 : code a false = 0) : zeta (feed (a ++ [false])) < zeta (feed a) ∧ (feed (a ++ [false])).t ≠ some 9 := by
  obtain ⟨h1, h2⟩ := good_hold _ a rfl hg
  rw [feed_snoc]
  unfold code at h0
  rcases ht : (feed a).t with _ | t
  · rw [bit_none ht] at h0 ⊢
    obtain ⟨w1, w2, w3⟩ := within_zero h0
    have ho : zer (feed a).r ≤ (feed a).r.1 := by unfold zer; split <;> omega
    have hs := zer_step (feed a).r
    have hl : zer (Sm.step (feed a).r false) ≤ (Sm.step (feed a).r false).1 := by unfold zer; split <;> omega
    have hz5 : zer (Sm.step (feed a).r false) = (Sm.step (feed a).r false).1 := by unfold zer Sm.step; split <;> rfl
    have hne : zer (feed a).r + 1 ≠ 6 := by rw [← hs, hz5]; exact w2
    unfold zeta
    rw [ht]
    rcases w3 with w3 | w3
    · rw [w3, w1, hs]; dsimp only; exact ⟨(by omega), (by intro k; cases k)⟩
    · rw [w3]; dsimp only; exact ⟨(by rw [if_neg (by decide)]; omega), (by intro k; cases k)⟩
  · rw [bit_some ht] at h0 ⊢
    obtain ⟨b1, b2⟩ := behind_some (feed a) t false
    have ht1 : t = 1 := by
      by_cases k : t = 1
      · exact k
      · exfalso
        unfold behind at h0
        rw [if_pos ⟨by omega, rfl⟩] at h0
        cases h0
    subst ht1
    unfold zeta
    rw [ht, b2]
    dsimp only
    exact ⟨by decide, by intro k; cases k⟩
theorem zeta_pos {a : List Bool} (hg : Good a) : 1 ≤ zeta (feed a) := by
  obtain ⟨h1, _⟩ := good_hold _ a rfl hg
  unfold zeta
  split
  · split <;> omega
  · have : zer (feed a).r ≤ (feed a).r.1 := by unfold zer; split <;> omega
    omega
theorem drv_flag {m : St} (h : m.ph = .flag) (hp : Km.pasC m.cs m.cg = false) : drive m = false := by unfold drive; rw [h]; exact hp
/-- who flags with zeros, or waits for the first one -/
def Fl (x : St) (l : Nat) : Prop := Ok x ∧ Km.offC x.cs = false ∧ Km.pasC x.cs x.cg = false ∧ x.snd = false ∧ x.has = false ∧ (1 ≤ l ∧ x.ph = .flag ∧ x.left = l ∨ l = 0 ∧ x.ph = .reco ∧ x.left = 7 ∧ x.first = true)
theorem fl_zero {x : St} {l : Nat} (h : Fl x (l + 1)) : Fl (sample x false).1 l := by
  obtain ⟨o, a, b, c, d, e⟩ := h
  have ok := ok_sample o false
  rcases e with ⟨_, e1, e2⟩ | ⟨e0, _⟩
  · rw [smp_flag e1] at ok ⊢
    by_cases h1 : x.left = 1
    · rw [if_pos h1] at ok ⊢
      exact ⟨ok, a, b, c, d, Or.inr ⟨by omega, rfl, rfl, rfl⟩⟩
    · rw [if_neg h1] at ok ⊢
      exact ⟨ok, a, b, c, d, Or.inl ⟨by omega, e1, by show x.left - 1 = l; omega⟩⟩
  · cases e0
theorem fl_stay {x : St} (h : Fl x 0) : Fl (sample x false).1 0 := by
  obtain ⟨o, a, b, c, d, e⟩ := h
  have ok := ok_sample o false
  rcases e with ⟨e0, _⟩ | ⟨_, e1, e2, e3⟩
  · omega
  · rw [smp_reco e1] at ok ⊢
    have er : recover x false = { x with first := true } := by unfold recover; rw [e3, if_pos rfl]; rfl
    rw [er] at ok ⊢
    exact ⟨ok, a, b, c, d, Or.inr ⟨rfl, e1, e2, rfl⟩⟩
/-- one flags no longer than the other: alike in the end -/
theorem flag_two : ∀ (m : Nat) (x y : St) (l : Nat), Fl y (m + 1) → Fl x l → l ≤ m → Rch (m + 1 + 34) (x, y) := by
  intro m
  induction m with
  | zero =>
    intro x y l hy hx hl
    obtain rfl : l = 0 := by omega
    have dy : drive y = false := by
      obtain ⟨o, a, b, c, d, e⟩ := hy
      rcases e with ⟨_, e1, _⟩ | ⟨e0, _⟩
      · exact drv_flag e1 b
      · cases e0
    have hx' := fl_stay hx
    have hy' := fl_zero hy
    refine Rch.from (k := 1) ?_
    show Rch 34 (pst (x, y) false)
    rw [pst_bit (c := false) (by dsimp only; rw [dy, Bool.and_false])]
    dsimp only
    obtain ⟨o, a, b, c, d, e⟩ := hx'
    obtain ⟨o', a', b', c', d', e'⟩ := hy'
    rcases e with ⟨e0, _⟩ | ⟨_, e1, e2, e3⟩
    · omega
    · rcases e' with ⟨e0, _⟩ | ⟨_, e1', e2', e3'⟩
      · omega
      · exact al_quiet ⟨o, o', a, a', (by rw [e1]; intro k; cases k), c, c', (by rw [e1, e1']), (fun _ _ => by rw [e2, e2']), (fun _ => by rw [e3, e3']), (fun k => by rw [e1] at k; cases k)⟩ d d'
  | succ m ih =>
    intro x y l hy hx hl
    have dy : drive y = false := by
      obtain ⟨o, a, b, c, d, e⟩ := hy
      rcases e with ⟨_, e1, _⟩ | ⟨e0, _⟩
      · exact drv_flag e1 b
      · cases e0
    have hy' := fl_zero hy
    have hx' : Fl (sample x false).1 (l - 1) := by
      cases l with
      | zero => exact fl_stay hx
      | succ l => exact fl_zero hx
    have := ih _ _ (l - 1) hy' hx' (by omega)
    rw [show m + 1 + 1 + 34 = 1 + (m + 1 + 34) by omega]
    refine Rch.from (k := 1) ?_
    show Rch (m + 1 + 34) (pst (x, y) false)
    rw [pst_bit (c := false) (by dsimp only; rw [dy, Bool.and_false])]
    exact this
/-- one flags, the other one hears: it meets an error in time -/
theorem flag_hear : ∀ (l : Nat) (x y : St), Fl x (l + 1) → l ≤ 5 → Ok y → y.ph = .inFr → y.snd = false → y.tk = false → y.has = false → Km.offC y.cs = false → Km.pasC y.cs (Km.gotG y.cs y.cg false) = false → zeta (feed y.bits) ≤ l + 1 → Rch (l + 1 + 40) (x, y) := by
  intro l
  induction l with
  | zero =>
    intro x y hx hl ok hp hs ht hh ho hpa hz
    have hg := (ok.good hp).1
    have dx : drive x = false := by
      obtain ⟨o, a, b, c, d, e⟩ := hx
      rcases e with ⟨_, e1, _⟩ | ⟨e0, _⟩
      · exact drv_flag e1 b
      · cases e0
    have h0 : code y.bits false ≠ 0 := fun k => by
      have h1 := zeta_less hg k
      have h2 := zeta_pos ((good_snoc hg (c := false)).2 k)
      omega
    have ey : (sample y false).1 = { y with cg := Km.gotG y.cs y.cg false, snd := false, ph := .flag, left := 6 } := by
      rw [smp_hear hp hs]
      unfold hearing
      rw [if_neg (by rw [ht]; decide), if_pos h0]
      unfold bad
      dsimp only
      rw [ho]
      rfl
    have oky := ok_sample ok false
    rw [ey] at oky
    have hx' := fl_zero hx
    refine Rch.from (k := 1) ?_
    show Rch 40 (pst (x, y) false)
    rw [pst_bit (c := false) (by dsimp only; rw [dx, Bool.false_and])]
    dsimp only
    rw [ey]
    exact flag_two 5 _ _ 0 ⟨oky, ho, hpa, rfl, hh, Or.inl ⟨by decide, rfl, rfl⟩⟩ hx' (by decide)
  | succ l ih =>
    intro x y hx hl ok hp hs ht hh ho hpa hz
    have hg := (ok.good hp).1
    have dx : drive x = false := by
      obtain ⟨o, a, b, c, d, e⟩ := hx
      rcases e with ⟨_, e1, _⟩ | ⟨e0, _⟩
      · exact drv_flag e1 b
      · cases e0
    have hx' := fl_zero hx
    have oky := ok_sample ok false
    by_cases h0 : code y.bits false = 0
    · obtain ⟨z1, z2⟩ := zeta_less hg h0
      have ey : (sample y false).1 = { y with bits := y.bits ++ [false] } := by
        rw [smp_hear hp hs]
        unfold hearing
        rw [if_neg (by rw [ht]; decide), if_neg (not_not_intro h0), if_neg z2]
      rw [ey] at oky
      have := ih _ { y with bits := y.bits ++ [false] } hx' (by omega) oky hp hs ht hh ho hpa (by show zeta (feed (y.bits ++ [false])) ≤ _; omega)
      rw [show l + 1 + 1 + 40 = 1 + (l + 1 + 40) by omega]
      refine Rch.from (k := 1) ?_
      show Rch (l + 1 + 40) (pst (x, y) false)
      rw [pst_bit (c := false) (by dsimp only; rw [dx, Bool.false_and])]
      dsimp only
      rw [ey]
      exact this
    · have ey : (sample y false).1 = { y with cg := Km.gotG y.cs y.cg false, snd := false, ph := .flag, left := 6 } := by
        rw [smp_hear hp hs]
        unfold hearing
        rw [if_neg (by rw [ht]; decide), if_pos h0]
        unfold bad
        dsimp only
        rw [ho]
        rfl
      rw [ey] at oky
      have h40 : Rch 40 ((sample x false).1, { y with cg := Km.gotG y.cs y.cg false, snd := false, ph := .flag, left := 6 }) := flag_two 5 _ _ (l + 1) ⟨oky, ho, hpa, rfl, hh, Or.inl ⟨by decide, rfl, rfl⟩⟩ hx' (by omega)
      have : Rch (1 + 40) (x, y) := by
        refine Rch.from (k := 1) ?_
        show Rch 40 (pst (x, y) false)
        rw [pst_bit (c := false) (by dsimp only; rw [dx, Bool.false_and])]
        dsimp only
        rw [ey]
        exact h40
      exact this.more (by omega)
end Go.Proofs.YtoohmpkhljfpbaaDoor.Mm
/- Plain mathematics of a turned bit: two nodes, one of which sends; nothing of the program is in it. -/
namespace Go.Proofs.YtoohmpkhljfpbaaDoor.Mm
open Go.Proofs.YtoohmpkhljfpbaaDoor.Bm Go.Proofs.YtoohmpkhljfpbaaDoor.Fm Go.Proofs.YtoohmpkhljfpbaaDoor.Sm Go.Proofs.YtoohmpkhljfpbaaDoor.Cm
set_option linter.unusedVariables false
theorem sn_ok {f : Fr} (hf : isFr f = true) : ∀ i, Ok (snA f i) := by
  intro i
  induction i with
  | zero =>
    have h := ok_ask ok_fresh f
    have e : (ask fresh f).2 = snA f 0 := by
      unfold ask
      rw [if_neg (by intro k; cases k), if_neg (by rw [hf]; decide)]
      rfl
    rw [e] at h
    exact h
  | succ i ih =>
    have h := ok_sample ih (btA f i)
    rw [sn_step hf] at h
    exact h
theorem ls_ok {f : Fr} (hf : isFr f = true) : ∀ i, Ok (lsA f i) := by
  intro i
  induction i with
  | zero => exact ok_fresh
  | succ i ih =>
    have h := ok_sample ih (btA f i)
    rw [ls_step hf] at h
    exact h
theorem al_any {x y : St} (h : Al x y) (hp : x.ph = .inFr) (c : Bool) : Al (sample x c).1 (sample y c).1 ∧ (sample x c).1.has = x.has ∧ (sample y c).1.has = y.has := by
  have hy : y.ph = .inFr := h.ph ▸ hp
  obtain ⟨kx1, kx2, kx3, kx4, kx5⟩ := own_keep c h.okx h.ofx h.sx (by rw [hp]; intro k; cases k) h.no (fun k => by rw [hp] at k; cases k)
  obtain ⟨ky1, ky2, ky3, ky4, ky5⟩ := own_keep c h.oky h.ofy h.sy (by rw [hy]; intro k; cases k) (by rw [hy]; intro k; cases k) (fun k => by rw [hy] at k; cases k)
  have okx := ok_sample h.okx c
  have oky := ok_sample h.oky c
  obtain ⟨hb, ht⟩ := h.fr hp
  have sx := smp_hear hp h.sx c
  have sy := smp_hear hy h.sy c
  obtain ⟨a1, a2, a3, a4⟩ := hear_alike c hp hy h.ofx h.ofy hb ht
  rw [← sx, ← sy] at a1 a2 a4
  rw [← sx] at a3
  exact ⟨⟨okx, oky, by rw [kx4]; exact h.ofx, by rw [ky4]; exact h.ofy, kx5, kx3, ky3, a1, fun k _ => a2 k, fun k => absurd k a3, a4⟩, kx1, ky1⟩
/-- both begin to hear at once -/
theorem al_start {x y : St} (ox : Ok x) (oy : Ok y) (hx : x.cs = 0) (hy : y.cs = 0) : Al (start x false).1 (start y false).1 := by
  refine ⟨ok_start ox false (fun k => by cases k), ok_start oy false (fun k => by cases k), ?_, ?_, (by intro k; cases k), rfl, rfl, rfl, fun k => absurd rfl k, fun k => (by cases k), fun _ => ⟨rfl, rfl⟩⟩
  · show Km.offC x.cs = false; rw [hx]; decide
  · show Km.offC y.cs = false; rw [hy]; decide
theorem pst_true {p : St × St} {c : Bool} (h : ((drive p.1 && drive p.2) != true) = c) : pst p true = ((sample p.1 c).1, (sample p.2 c).1) := by
  unfold pst
  rw [h]
theorem zeta_top (s : Rd) : zeta s ≤ 6 := by unfold zeta; split; split <;> omega; omega
/-- the bit is turned while nothing is sent -/
theorem turn_out {f : Fr} (hf : isFr f = true) (i : Nat) (h : i ≤ 3 ∨ 3 + oL f ≤ i) : (i ≤ 3 → Rch (34 + (oL f + 3)) (pst (snA f i, lsA f i) true)) ∧ (3 + oL f ≤ i → Rch 34 (pst (snA f i, lsA f i) true)) := by
  obtain ⟨hL, hL2⟩ := out_len hf
  have hoL : oL f = (outB f).length := rfl
  have hb : (drive (snA f i) && drive (lsA f i)) = btA f i := both_drive hf i
  have ox := sn_ok hf i
  have oy := ls_ok hf i
  refine ⟨fun h3 => ?_, fun h3 => ?_⟩
  · by_cases h4 : i = 3
    · have hbt : btA f i = false := by unfold btA; rw [if_pos ⟨by omega, by omega⟩, h4]; exact ack_first hf
      rw [pst_true (p := (snA f i, lsA f i)) (c := true) (by dsimp only; rw [hb, hbt]; rfl)]
      dsimp only
      have e1 : snA f i = idS true f [] false 0 0 := by unfold snA; rw [if_neg (by omega), if_pos (by omega), h4]; rfl
      have e2 : lsA f i = idS false noF [] false 0 0 := by unfold lsA; rw [if_neg (by omega), if_pos (by omega), h4]; rfl
      have ox' := ox
      rw [e1] at ox' ⊢
      rw [e2, idS_one, idS_one]
      exact (frame_quiet hf (by unfold Win; rw [if_pos rfl]; exact ⟨rfl, rfl, rfl⟩) (by unfold Thi; rw [if_pos rfl]; exact ⟨rfl, rfl⟩) ox' rfl).more (by omega)
    · have hbt : btA f i = true := by unfold btA; rw [if_neg (by omega)]
      rw [pst_true (p := (snA f i, lsA f i)) (c := false) (by dsimp only; rw [hb, hbt]; rfl)]
      dsimp only
      have e1 : snA f i = pz (3 - i) true f [] false 0 0 := by unfold snA; rw [if_pos (by omega)]
      have e2 : lsA f i = pz (3 - i) false noF [] false 0 0 := by unfold lsA; rw [if_pos (by omega)]
      rw [e1] at ox ⊢
      rw [e2] at oy ⊢
      exact al_frame hf (al_start ox oy rfl rfl) rfl rfl rfl
  · have hbt : btA f i = true := by unfold btA; rw [if_neg (by omega)]
    rw [pst_true (p := (snA f i, lsA f i)) (c := false) (by dsimp only; rw [hb, hbt]; rfl)]
    dsimp only
    by_cases h6 : i < 6 + oL f
    · have e1 : snA f i = pz (6 + oL f - i) false f (ackB f) false 0 0 := by unfold snA; rw [if_neg (by omega), if_neg (by omega), if_pos h6]
      have e2 : lsA f i = pz (6 + oL f - i) false noF ((ackB f).take (oL f - 1)) true 0 0 := by unfold lsA; rw [if_neg (by omega), if_neg (by omega), if_pos h6]
      rw [e1] at ox ⊢
      rw [e2] at oy ⊢
      exact al_quiet (al_start ox oy rfl rfl) rfl rfl
    · have e1 : snA f i = idS false f (ackB f) false 0 0 := by unfold snA; rw [if_neg (by omega), if_neg (by omega), if_neg h6]
      have e2 : lsA f i = idS false noF ((ackB f).take (oL f - 1)) true 0 0 := by unfold lsA; rw [if_neg (by omega), if_neg (by omega), if_neg h6]
      rw [e1] at ox ⊢
      rw [e2] at oy ⊢
      exact al_quiet (al_start ox oy rfl rfl) rfl rfl
/-- the bit is turned within the frame -/
theorem turn_in {f : Fr} (hf : isFr f = true) (b : Nat) (h0 : 1 ≤ b) (hb : b < oL f) : Rch 46 (pst (snA f (b + 3), lsA f (b + 3)) true) := by
  obtain ⟨hL, hL2⟩ := out_len hf
  have hoL : oL f = (outB f).length := rfl
  have har := arb_le f
  have hbd : (drive (snA f (b + 3)) && drive (lsA f (b + 3))) = btA f (b + 3) := both_drive hf (b + 3)
  have hbt : btA f (b + 3) = (ackB f).getD b true := by unfold btA; rw [if_pos ⟨by omega, by omega⟩, show b + 3 - 3 = b by omega]
  obtain ⟨c, hc⟩ : ∃ c, c = !(ackB f).getD b true := ⟨_, rfl⟩
  rw [pst_true (p := (snA f (b + 3), lsA f (b + 3))) (c := c) (by dsimp only; rw [hbd, hbt, hc]; cases (ackB f).getD b true <;> rfl)]
  dsimp only
  have ox := sn_ok hf (b + 3)
  have oy := ls_ok hf (b + 3)
  have e1 : snA f (b + 3) = sdS f b 0 0 := by unfold snA; rw [if_neg (by omega), if_pos (by omega), show b + 3 - 3 = b by omega]; unfold tst; rw [if_neg (by omega)]
  have e2 : lsA f (b + 3) = ⟨.inFr, 0, false, false, false, decide (b + 1 = (outB f).length), noF, (ackB f).take b, 0, 0⟩ := by unfold lsA; rw [if_neg (by omega), if_pos (by omega), show b + 3 - 3 = b by omega]; unfold hs; rw [if_neg (by omega), if_pos (by omega)]
  rw [e1] at ox ⊢
  rw [e2] at oy ⊢
  have hbl : ((ackB f).take b).length = b := take_len f b (by omega)
  have hao := ack_get f b (by omega)
  have hg : Good ((ackB f).take b) := ack_good hf b (by omega)
  have esx : sample (sdS f b 0 0) c = sending (sdS f b 0 0) c := rfl
  by_cases hlost : (outB f).getD b true = true ∧ c = false ∧ b + 1 ≤ arbL f
  · obtain ⟨l1, l2, l3⟩ := hlost
    have est : sending (sdS f b 0 0) c = ((hearing { sdS f b 0 0 with snd := false } c).1, ⟨3, f, 0⟩ :: (hearing { sdS f b 0 0 with snd := false } c).2) := by
      unfold sending
      rw [if_pos]
      · rfl
      · show (outB f).getD ((ackB f).take b).length true = true ∧ c = false ∧ ((ackB f).take b).length + 1 ≤ arbL f
        rw [hbl]
        exact ⟨l1, l2, l3⟩
    have htn : (feed ((ackB f).take b)).t = none := ack_in hf b (by omega)
    have hA : Al { sdS f b 0 0 with snd := false } ⟨.inFr, 0, false, false, false, decide (b + 1 = (outB f).length), noF, (ackB f).take b, 0, 0⟩ := by
      refine ⟨⟨(show Km.isC 0 0 = true by decide), fun _ => ⟨hg, ?_⟩, fun k => (by cases k), fun k => (by cases k), fun _ _ => ⟨fun k => (by cases k), fun k => ?_⟩, fun k => (by cases k), fun k => (by cases k), fun k => (by cases k)⟩, oy, (show Km.offC 0 = false by decide), (show Km.offC 0 = false by decide), (by intro k; cases k), rfl, rfl, rfl, fun k => absurd rfl k, fun k => (by cases k), fun _ => ⟨rfl, ?_⟩⟩
      · intro k
        have : ((ackB f).take b).length = 0 := by rw [show (ackB f).take b = [] from k]; rfl
        omega
      · have k' : (feed ((ackB f).take b)).t = some 9 := k
        rw [htn] at k'; cases k'
      · exact (decide_eq_false (by omega)).symm
    obtain ⟨q1, q2, q3⟩ := al_any hA rfl c
    have sx : sample { sdS f b 0 0 with snd := false } c = hearing { sdS f b 0 0 with snd := false } c := smp_hear rfl rfl c
    rw [esx, est]
    rw [sx] at q1 q2
    exact (al_quiet q1 (q2.trans rfl) (q3.trans rfl)).more (by decide)
  · have hfail : (sample (sdS f b 0 0) c).1 = { sdS f b 0 0 with cs := 8, snd := false, ph := .flag, left := 6 } := by
      have hsent : Km.sentS 0 0 false = 8 := by decide
      rw [esx]
      unfold sending
      have hb' : (sdS f b 0 0).bits.length = b := hbl
      have hf' : (sdS f b 0 0).f = f := rfl
      rw [hb', hf', if_neg hlost]
      by_cases h9 : b + 1 = (outB f).length - 8
      · have hct : c = true := by rw [hc, hao, if_pos (by omega)]; rfl
        rw [if_pos ⟨h9, hct⟩]
        unfold bad
        dsimp only [sdS]
        simp only [hsent]
        rfl
      · have hne : (outB f).getD b true ≠ c := by rw [hc, hao, if_neg (by omega)]; cases (outB f).getD b true <;> decide
        rw [if_neg (fun k => h9 k.1), if_pos ⟨h9, hne⟩]
        unfold bad
        dsimp only [sdS]
        simp only [hsent]
        rfl
    have okx := ok_sample ox c
    rw [hfail] at okx ⊢
    have hFl : Fl { sdS f b 0 0 with cs := 8, snd := false, ph := .flag, left := 6 } 6 := ⟨okx, (show Km.offC 8 = false by decide), (show Km.pasC 8 0 = false by decide), rfl, rfl, Or.inl ⟨by decide, rfl, rfl⟩⟩
    have oky := ok_sample oy c
    by_cases hlast : b + 1 = (outB f).length
    · have ey : (sample (⟨.inFr, 0, false, false, false, decide (b + 1 = (outB f).length), noF, (ackB f).take b, 0, 0⟩ : St) c).1 = ⟨.pause, 3, false, false, false, decide (b + 1 = (outB f).length), noF, (ackB f).take b, 0, 0⟩ := by
        rw [lis_end (m := ⟨.inFr, 0, false, false, false, decide (b + 1 = (outB f).length), noF, (ackB f).take b, 0, 0⟩) rfl rfl (decide_eq_true hlast) c]
      rw [ey] at oky ⊢
      have dx : drive { sdS f b 0 0 with cs := 8, snd := false, ph := .flag, left := 6 } = false := drv_flag rfl (show Km.pasC 8 0 = false by decide)
      have hz : zeta (feed [false]) ≤ 5 := by decide
      have := flag_hear 4 _ (start ⟨.pause, 3, false, false, false, decide (b + 1 = (outB f).length), noF, (ackB f).take b, 0, 0⟩ false).1 (fl_zero hFl) (by decide) (ok_start oky false (fun k => by cases k)) rfl rfl rfl rfl (show Km.offC 0 = false by decide) (show Km.pasC 0 (Km.gotG 0 0 false) = false by decide) hz
      have h2 : Rch (1 + (4 + 1 + 40)) ({ sdS f b 0 0 with cs := 8, snd := false, ph := .flag, left := 6 }, (⟨.pause, 3, false, false, false, decide (b + 1 = (outB f).length), noF, (ackB f).take b, 0, 0⟩ : St)) := by
        refine Rch.from (k := 1) ?_
        show Rch (4 + 1 + 40) (pst _ false)
        rw [pst_bit (c := false) (by dsimp only; rw [dx, Bool.false_and])]
        exact this
      exact h2.more (by decide)
    · have htk : decide (b + 1 = (outB f).length) = false := decide_eq_false hlast
      rw [htk] at oy oky ⊢
      have sy := smp_hear (m := ⟨.inFr, 0, false, false, false, false, noF, (ackB f).take b, 0, 0⟩) rfl rfl c
      by_cases hcd : code ((ackB f).take b) c = 0
      · have hn9 : (feed ((ackB f).take b ++ [c])).t ≠ some 9 := by
          intro k9
          have h0' := hcd
          rw [feed_snoc] at k9
          unfold code at h0'
          rcases ht : (feed ((ackB f).take b)).t with _ | t
          · rw [bit_none ht] at k9 h0'
            rcases (within_zero h0').2.2 with w | w <;> (rw [w] at k9; cases k9)
          · rw [bit_some ht] at k9 h0'
            rw [(behind_some _ t c).2] at k9
            injection k9 with k9
            have hat := ack_t hf b (by omega)
            rw [ht] at hat
            by_cases hlt : b < (outB f).length - 10
            · rw [if_pos hlt] at hat; cases hat
            · rw [if_neg hlt] at hat
              injection hat with hat
              have hcf : c = true := by
                cases hcc : c
                · exfalso
                  rw [hcc] at h0'
                  unfold behind at h0'
                  rw [if_pos ⟨by omega, rfl⟩] at h0'
                  cases h0'
                · rfl
              have hao2 : (ackB f).getD b true = true := by
                obtain ⟨P, p1, p2⟩ := out_form f
                rw [hao, if_neg (by omega), p1]
                have hpl : (outB f).length = P.length + 10 := by rw [p1, List.length_append, length_ones]
                rw [List.getD_eq_getElem?_getD, List.getElem?_append_right (by omega)]
                unfold ones
                rw [List.getElem?_replicate]
                split <;> rfl
              rw [hc, hao2] at hcf
              cases hcf
        have ey : (sample (⟨.inFr, 0, false, false, false, false, noF, (ackB f).take b, 0, 0⟩ : St) c).1 = ⟨.inFr, 0, false, false, false, false, noF, (ackB f).take b ++ [c], 0, 0⟩ := by
          rw [sy]
          unfold hearing
          rw [if_neg (show ¬ false = true by decide), if_neg (not_not_intro hcd), if_neg hn9]
        rw [ey] at oky ⊢
        exact (flag_hear 5 _ _ hFl (by decide) oky rfl rfl rfl rfl (show Km.offC 0 = false by decide) (show Km.pasC 0 (Km.gotG 0 0 false) = false by decide) (zeta_top _)).more (by decide)
      · have ey : (sample (⟨.inFr, 0, false, false, false, false, noF, (ackB f).take b, 0, 0⟩ : St) c).1 = ⟨.flag, 6, false, false, false, false, noF, (ackB f).take b, 0, 1⟩ := by
          rw [sy]
          unfold hearing
          rw [if_neg (show ¬ false = true by decide), if_pos hcd]
          rfl
        rw [ey] at oky ⊢
        exact (al_quiet ⟨okx, oky, (show Km.offC 8 = false by decide), (show Km.offC 0 = false by decide), (by intro k; cases k), rfl, rfl, rfl, fun _ _ => rfl, fun k => (by cases k), fun k => (by cases k)⟩ rfl rfl).more (by decide)
theorem turned {f : Fr} (hf : isFr f = true) (hT : oL f ≤ 160) (i n : Nat) (h1 : i ≤ 255) (h2 : n + i = 399) : Rch n (pst (snA f i, lsA f i) true) := by
  by_cases h3 : i ≤ 3
  · exact ((turn_out hf i (Or.inl h3)).1 h3).more (by omega)
  · by_cases h4 : 3 + oL f ≤ i
    · exact ((turn_out hf i (Or.inr h4)).2 h4).more (by omega)
    · have := turn_in hf (i - 3) (by omega) (by omega)
      rw [show i - 3 + 3 = i by omega] at this
      exact this.more (by omega)
end Go.Proofs.YtoohmpkhljfpbaaDoor.Mm
/- Plain mathematics of a turned bit, then another one's frame: three nodes on a wire; nothing of the program is in it. -/
namespace Go.Proofs.YtoohmpkhljfpbaaDoor.Mm
open Go.Proofs.YtoohmpkhljfpbaaDoor.Bm Go.Proofs.YtoohmpkhljfpbaaDoor.Fm Go.Proofs.YtoohmpkhljfpbaaDoor.Sm Go.Proofs.YtoohmpkhljfpbaaDoor.Cm
set_option linter.unusedVariables false
def Tp (f : Fr) (at_ i : Nat) : St × St := if i ≤ at_ then (snA f i, lsA f i) else prun (i - (at_ + 1)) (pst (snA f at_, lsA f at_) true)
theorem tp_step {f : Fr} (hf : isFr f = true) (at_ i : Nat) : pst (Tp f at_ i) (decide (i = at_)) = Tp f at_ (i + 1) := by
  unfold Tp
  by_cases h1 : i < at_
  · rw [if_pos (by omega), if_pos (by omega), decide_eq_false (by omega), pst_bit (both_drive hf i)]
    dsimp only
    rw [sn_step hf, ls_step hf]
  · by_cases h2 : i = at_
    · subst h2
      rw [if_pos (Nat.le_refl _), if_neg (by omega), decide_eq_true rfl, Nat.sub_self]
      rfl
    · rw [if_neg (by omega), if_neg (by omega), decide_eq_false h2, show i + 1 - (at_ + 1) = i - (at_ + 1) + 1 by omega, prun_add]
      rfl
theorem tp_ok {f : Fr} (hf : isFr f = true) (at_ : Nat) : ∀ i, Ok (Tp f at_ i).1 ∧ Ok (Tp f at_ i).2 := by
  intro i
  induction i with
  | zero =>
    unfold Tp
    rw [if_pos (Nat.zero_le _)]
    exact ⟨sn_ok hf 0, ls_ok hf 0⟩
  | succ i ih =>
    rw [← tp_step hf at_ i]
    unfold pst
    exact ⟨ok_sample ih.1 _, ok_sample ih.2 _⟩
def Ph1 (f : Fr) (at_ i : Nat) (W : Wi) : Prop := W.ms = pl 3 0 (Tp f at_ i).1 (Tp f at_ i).2 ∧ (∃ h g, W.hs = pl 3 0 h g ∧ h.length ≤ 100 ∧ g.length ≤ 100) ∧ W.bs.length = i
theorem ph1_step {f : Fr} (hf : isFr f = true) (at_ i : Nat) {W : Wi} (h : Ph1 f at_ i W) (fl : Bool) (hfl : fl = decide (i = at_)) : Ph1 f at_ (i + 1) (wnext W fl) := by
  obtain ⟨h1, ⟨a, b, h2, _, _⟩, h3⟩ := h
  have hb : wbit W.ms fl = ((drive (Tp f at_ i).1 && drive (Tp f at_ i).2) != fl) := by
    unfold wbit
    rw [h1, pl_all drive 3 0 _ _ (by decide) (by decide)]
  obtain ⟨k1, k2⟩ := wnext_pl h1 h2 fl
  rw [hb] at k1
  refine ⟨?_, ⟨_, _, k2, lst_len _, lst_len _⟩, ?_⟩
  · rw [k1, ← tp_step hf at_ i, ← hfl]
    rfl
  · show (W.bs ++ [_]).length = i + 1
    rw [List.length_append, h3]; rfl
theorem ph1_start {f : Fr} (hf : isFr f = true) (at_ : Nat) (qs : List Nat) (qb : Nat) : ∃ W', wask (wnew 3 qs qb) 0 f = (0, W') ∧ Ph1 f at_ 0 W' := by
  obtain ⟨W', h1, h2, _, _⟩ := one_start hf 3 0 (by decide) qs qb
  refine ⟨W', h1, ?_⟩
  obtain ⟨a, b, c⟩ := h2
  refine ⟨?_, ⟨_, _, b, (show ([] : List Ev).length ≤ 100 by decide), (show ([] : List Ev).length ≤ 100 by decide)⟩, c⟩
  rw [a]
  unfold Tp
  rw [if_pos (Nat.zero_le _)]
theorem ph1_end {f : Fr} (hf : isFr f = true) (hT : oL f ≤ 160) {at_ : Nat} (h : at_ ≤ 255) : Quiet (Tp f at_ 400) := by
  unfold Tp
  rw [if_neg (by omega)]
  exact turned hf hT at_ _ h (by omega)
/-- the second frame -/
def S3 (g : Fr) (i : Nat) (a b c : St) : Prop :=
  if i < (outB g).length then Thi g i a ∧ Win g i b ∧ Thi g i c ∧ Ok b ∧ a.has = false ∧ c.has = false
  else if i < (outB g).length + 3 then (a.ph = .pause ∧ a.left = (outB g).length + 3 - i ∧ a.has = false) ∧ (b.ph = .pause ∧ b.left = (outB g).length + 3 - i ∧ b.has = false) ∧ (c.ph = .pause ∧ c.left = (outB g).length + 3 - i ∧ c.has = false)
  else (a.ph = .idle ∧ a.has = false) ∧ (b.ph = .idle ∧ b.has = false) ∧ (c.ph = .idle ∧ c.has = false)
def eL3 (g : Fr) (i : Nat) : List Ev := if i = 0 then [⟨6, noF, 0⟩] else if i + 2 = (outB g).length then [⟨2, g, 0⟩] else []
def eS3 (g : Fr) (i : Nat) : List Ev := if i = 0 then [⟨6, noF, 0⟩] else if i + 1 = (outB g).length then [⟨1, g, 0⟩] else []
theorem s3_pause {m : St} {k : Nat} (h1 : m.ph = .pause) (h2 : m.left = k + 1) (h3 : m.has = false) : drive m = true ∧ (sample m true).2 = [] ∧ (if k = 0 then (sample m true).1.ph = .idle ∧ (sample m true).1.has = false else (sample m true).1.ph = .pause ∧ (sample m true).1.left = k ∧ (sample m true).1.has = false) := by
  refine ⟨drv_pause h1, ?_, ?_⟩
  · rw [pause_one h1]; split <;> rfl
  · rw [pause_one h1]
    by_cases hk : k = 0
    · rw [if_pos hk, if_pos (by omega)]; exact ⟨rfl, h3⟩
    · rw [if_neg hk, if_neg (by omega)]; exact ⟨h1, (by show m.left - 1 = k; omega), h3⟩
theorem s3_idle {m : St} (h1 : m.ph = .idle) (h2 : m.has = false) : drive m = true ∧ sample m true = (m, []) := ⟨by rw [idle_drive h1, h2]; rfl, idle_one h1⟩
theorem s3_step {g : Fr} (hg : isFr g = true) (i : Nat) {a b c : St} (h : S3 g i a b c) : ∃ v, (drive a && (drive b && drive c)) = v ∧ S3 g (i + 1) (sample a v).1 (sample b v).1 (sample c v).1 ∧ (sample a v).2 = eL3 g i ∧ (sample b v).2 = eS3 g i ∧ (sample c v).2 = eL3 g i := by
  have hL := (out_len hg).1
  unfold S3 at h
  by_cases h1 : i < (outB g).length
  · rw [if_pos h1] at h
    obtain ⟨ta, wb, tc, ob, ha, hc⟩ := h
    obtain ⟨_, a', sa, wa⟩ := thi_step hg h1 ta
    obtain ⟨_, b', sb, wb'⟩ := win_step hg h1 wb
    obtain ⟨_, c', sc, wc⟩ := thi_step hg h1 tc
    have d1 := pair_bit hg h1 wb ta
    have d2 := pair_bit hg h1 wb tc
    refine ⟨wire g i, ?_, ?_, ?_, ?_, ?_⟩
    · rw [d2, ← d1]
      cases drive a <;> cases drive b <;> rfl
    · have na := has_down a (wire g i) ha
      have nc := has_down c (wire g i) hc
      have nb := ok_sample ob (wire g i)
      unfold S3
      by_cases h2 : i + 1 < (outB g).length
      · rw [if_pos h2]
        rw [sa] at na ⊢
        rw [sc] at nc ⊢
        rw [sb] at nb ⊢
        exact ⟨wa, wb', wc, nb, na, nc⟩
      · rw [if_neg h2, if_pos (by omega), show (outB g).length + 3 - (i + 1) = 3 by omega]
        unfold Win at wb
        rw [if_neg (by omega)] at wb
        obtain ⟨b1, b2, b3, b4⟩ := wb h1
        unfold Thi Lis at ta tc
        rw [if_neg (by omega)] at ta tc
        obtain ⟨a1, a2, a3, a4⟩ := ta h1
        obtain ⟨c1, c2, c3, c4⟩ := tc h1
        have hh : b.has = false := by
          cases k : b.has
          · rfl
          · have := (ob.has k).2.1; rw [b2] at this; cases this
        have nb2 := has_down b (wire g i) hh
        have sx := snd_bit hg b1 b2 b3 b4 h1
        rw [if_pos (by omega)] at sx
        have sy := lis_end a1 a2 (by rw [a4]; exact decide_eq_true (by omega)) (wire g i)
        have sz := lis_end c1 c2 (by rw [c4]; exact decide_eq_true (by omega)) (wire g i)
        refine ⟨⟨by rw [sy], by rw [sy], na⟩, ⟨by unfold wire; rw [sx], by unfold wire; rw [sx], nb2⟩, ⟨by rw [sz], by rw [sz], nc⟩⟩
    · rw [sa]; rfl
    · rw [sb]; rfl
    · rw [sc]; rfl
  · rw [if_neg h1] at h
    have e1 : eL3 g i = [] := by unfold eL3; rw [if_neg (by omega), if_neg (by omega)]
    have e2 : eS3 g i = [] := by unfold eS3; rw [if_neg (by omega), if_neg (by omega)]
    rw [e1, e2]
    by_cases h2 : i < (outB g).length + 3
    · rw [if_pos h2] at h
      obtain ⟨⟨a1, a2, a3⟩, ⟨b1, b2, b3⟩, ⟨c1, c2, c3⟩⟩ := h
      obtain ⟨k, hk⟩ : ∃ k, (outB g).length + 3 - i = k + 1 := ⟨(outB g).length + 2 - i, by omega⟩
      rw [hk] at a2 b2 c2
      obtain ⟨da, ea, fa⟩ := s3_pause a1 a2 a3
      obtain ⟨db, eb, fb⟩ := s3_pause b1 b2 b3
      obtain ⟨dc, ec, fc⟩ := s3_pause c1 c2 c3
      refine ⟨true, by rw [da, db, dc]; rfl, ?_, ea, eb, ec⟩
      unfold S3
      rw [if_neg (by omega)]
      by_cases h0 : k = 0
      · rw [if_pos h0] at fa fb fc
        rw [if_neg (by omega)]
        exact ⟨fa, fb, fc⟩
      · rw [if_neg h0] at fa fb fc
        rw [if_pos (by omega), show (outB g).length + 3 - (i + 1) = k by omega]
        exact ⟨fa, fb, fc⟩
    · rw [if_neg h2] at h
      obtain ⟨⟨a1, a2⟩, ⟨b1, b2⟩, ⟨c1, c2⟩⟩ := h
      obtain ⟨da, ea⟩ := s3_idle a1 a2
      obtain ⟨db, eb⟩ := s3_idle b1 b2
      obtain ⟨dc, ec⟩ := s3_idle c1 c2
      refine ⟨true, by rw [da, db, dc]; rfl, ?_, by rw [ea], by rw [eb], by rw [ec]⟩
      unfold S3
      rw [if_neg (by omega), if_neg (by omega), ea, eb, ec]
      exact ⟨⟨a1, a2⟩, ⟨b1, b2⟩, ⟨c1, c2⟩⟩
theorem lst_snoc (h : List Ev) (v : Ev) : (lst (h ++ [v])).getLast? = some v := by
  unfold lst
  rw [List.length_append, List.drop_append]
  have : List.drop (h.length + [v].length - 100 - h.length) [v] = [v] := by
    rw [show h.length + [v].length - 100 - h.length = 0 by simp]; rfl
  rw [this, List.getLast?_append]
  rfl
theorem lst_none {h : List Ev} (hl : h.length ≤ 100) : lst (h ++ []) = h := by rw [List.append_nil]; exact lst_id hl
def Ph2 (g : Fr) (i : Nat) (W : Wi) : Prop := ∃ a b c h0 h1 h2, W.ms = [a, b, c] ∧ W.hs = [h0, h1, h2] ∧ h0.length ≤ 100 ∧ h1.length ≤ 100 ∧ h2.length ≤ 100 ∧ S3 g i a b c ∧
  ((outB g).length ≤ i + 1 → h0.getLast? = some ⟨2, g, 0⟩ ∧ h2.getLast? = some ⟨2, g, 0⟩) ∧ ((outB g).length ≤ i → h1.getLast? = some ⟨1, g, 0⟩) ∧ W.bs.length = 400 + i
theorem ph2_step {g : Fr} (hg : isFr g = true) (i : Nat) {W : Wi} (h : Ph2 g i W) : Ph2 g (i + 1) (wnext W false) := by
  have hL := (out_len hg).1
  obtain ⟨a, b, c, h0, h1, h2, e1, e2, l0, l1, l2, s, x, y, z⟩ := h
  obtain ⟨v, d, s', ea, eb, ec⟩ := s3_step hg i s
  have hb : wbit W.ms false = v := by
    unfold wbit
    rw [e1]
    show ((drive a && (drive b && (drive c && true))) != false) = v
    rw [Bool.and_true, d]
    cases v <;> rfl
  refine ⟨(sample a v).1, (sample b v).1, (sample c v).1, lst (h0 ++ eL3 g i), lst (h1 ++ eS3 g i), lst (h2 ++ eL3 g i), ?_, ?_, lst_len _, lst_len _, lst_len _, s', ?_, ?_, ?_⟩
  · unfold wnext wmap; dsimp only; rw [hb, e1]; rfl
  · unfold wnext wheard; dsimp only; rw [hb, e1, e2]
    show [lst (h0 ++ (sample a v).2), lst (h1 ++ (sample b v).2), lst (h2 ++ (sample c v).2)] = _
    rw [ea, eb, ec]
  · intro hi
    by_cases k : i + 2 = (outB g).length
    · have e : eL3 g i = [⟨2, g, 0⟩] := by unfold eL3; rw [if_neg (by omega), if_pos k]
      rw [e]
      exact ⟨lst_snoc _ _, lst_snoc _ _⟩
    · have e : eL3 g i = [] := by unfold eL3; rw [if_neg (by omega), if_neg k]
      rw [e, lst_none l0, lst_none l2]
      exact x (by omega)
  · intro hi
    by_cases k : i + 1 = (outB g).length
    · have e : eS3 g i = [⟨1, g, 0⟩] := by unfold eS3; rw [if_neg (by omega), if_pos k]
      rw [e]
      exact lst_snoc _ _
    · have e : eS3 g i = [] := by unfold eS3; rw [if_neg (by omega), if_neg k]
      rw [e, lst_none l1]
      exact y (by omega)
  · show (W.bs ++ [_]).length = _
    rw [List.length_append, z]; rfl
theorem ph2_start {f g : Fr} (hf : isFr f = true) (hg : isFr g = true) (hT : oL f ≤ 160) {at_ : Nat} (ha : at_ ≤ 255) {W : Wi} (h : Ph1 f at_ 400 W) : ∃ W', wask W 1 g = (0, W') ∧ Ph2 g 0 W' := by
  have hL := (out_len hg).1
  obtain ⟨h1, ⟨p, q, h2, l1, l2⟩, h3⟩ := h
  obtain ⟨q1, q2, q3, q4⟩ := ph1_end hf hT ha
  obtain ⟨o1, o2⟩ := tp_ok hf at_ 400
  generalize Tp f at_ 400 = P at *
  obtain ⟨x, y⟩ := P
  dsimp only at *
  have e3 : W.ms = [x, y, y] := h1
  have e4 : W.hs = [p, q, q] := h2
  have hs : y.snd = false := by
    cases k : y.snd
    · rfl
    · have := (o2.snd k).1; rw [q3] at this; cases this
  have hak : ask y g = (0, { y with has := true, f := g }) := by
    unfold ask busy
    rw [if_neg (by rw [q3]; intro k; cases k), if_neg (by rw [hg]; decide), q4, hs, if_neg (by decide)]
  have hok := ok_ask o2 g
  rw [hak] at hok
  unfold wask
  rw [if_pos ⟨by decide, by rw [e3]; show (1 : Int) < 3; decide⟩]
  have hget : W.ms.getD (1 : Int).toNat fresh = y := by rw [e3]; rfl
  rw [hget, hak]
  refine ⟨_, rfl, x, { y with has := true, f := g }, y, p, q, q, ?_, e4, l1, l2, l2, ?_, fun k => by omega, fun k => by omega, h3⟩
  · show W.ms.set (1 : Int).toNat _ = _
    rw [e3]; rfl
  · unfold S3
    rw [if_pos (by omega)]
    refine ⟨?_, ?_, ?_, hok, q2, q4⟩
    · unfold Thi; rw [if_pos rfl]; exact ⟨q1, q2⟩
    · unfold Win; rw [if_pos rfl]; exact ⟨q3, rfl, rfl⟩
    · unfold Thi; rw [if_pos rfl]; exact ⟨q3, q4⟩
theorem ph1_idle {f : Fr} (hf : isFr f = true) (hT : oL f ≤ 160) {at_ : Nat} (ha : at_ ≤ 255) {W : Wi} (h : Ph1 f at_ 400 W) (j : Nat) (hj : j < 3) : ∃ m, W.ms[j]? = some m ∧ decide (m.ph = .idle) = true ∧ busy m = false := by
  obtain ⟨h1, _, _⟩ := h
  obtain ⟨q1, q2, q3, q4⟩ := ph1_end hf hT ha
  obtain ⟨o1, o2⟩ := tp_ok hf at_ 400
  have nb : ∀ m : St, Ok m → m.ph = .idle → m.has = false → decide (m.ph = .idle) = true ∧ busy m = false := fun m o i hh => by
    refine ⟨decide_eq_true i, ?_⟩
    have hs : m.snd = false := by
      cases k : m.snd
      · rfl
      · have := (o.snd k).1; rw [i] at this; cases this
    unfold busy
    rw [hh, hs]
    rfl
  rw [h1, pl_get? _ _ _ _ _ hj]
  by_cases h0 : j = 0
  · rw [if_pos h0]; exact ⟨_, rfl, nb _ o1 q1 q2⟩
  · rw [if_neg h0]; exact ⟨_, rfl, nb _ o2 q3 q4⟩
end Go.Proofs.YtoohmpkhljfpbaaDoor.Mm
/- Plain mathematics of a lost arbitration: who wins, what is counted; nothing of the program is in it. -/
namespace Go.Proofs.YtoohmpkhljfpbaaDoor.Mm
open Go.Proofs.YtoohmpkhljfpbaaDoor.Bm Go.Proofs.YtoohmpkhljfpbaaDoor.Fm Go.Proofs.YtoohmpkhljfpbaaDoor.Sm Go.Proofs.YtoohmpkhljfpbaaDoor.Cm
set_option linter.unusedVariables false
/-- Two that begin at once, and a third one. -/
theorem race {a b : Fr} (ha : isFr a = true) (hb : isFr b = true) (hne : ¬ (a.2.1 = b.2.1 ∧ a.1 = b.1 ∧ a.2.2.1 = b.2.2.1)) :
    ∃ (F G : Fr) (j : Nat) (I : Nat → St → St → St → Prop), isFr F = true ∧ (F = a ∨ F = b) ∧ 1 ≤ j ∧ j + 11 ≤ (outB F).length ∧
      (∀ x y z : St, x.ph = .idle → x.has = true → x.f = a → y.ph = .idle → y.has = true → y.f = b → z.ph = .idle → z.has = false → I 0 x y z) ∧
      ∀ (i : Nat) (x y z : St), i < (outB F).length → I i x y z → ∃ x' y' z' e1 e2 e3, (drive x && drive y && drive z) = wire F i ∧ sample x (wire F i) = (x', e1) ∧ sample y (wire F i) = (y', e2) ∧ sample z (wire F i) = (z', e3) ∧ I (i + 1) x' y' z' ∧ e1 ++ e2 ++ e3 = evs F G j i := by
  rcases one_wins ha hb hne with h | h
  · obtain ⟨j, j1, jG, jF, ht, dF, dG⟩ := lose_at hb h
    have hl := (out_len ha).1
    have hal := arb_le a
    refine ⟨a, b, j, fun i x y z => Win a i x ∧ Los a b j i y ∧ Thi a i z, ha, Or.inl rfl, j1, by omega, fun x y z x1 x2 x3 y1 y2 y3 z1 z2 => ?_, fun i x y z hi h => ?_⟩
    · refine ⟨?_, ?_, ?_⟩
      · unfold Win; rw [if_pos rfl]; exact ⟨x1, x2, x3⟩
      · unfold Los; rw [if_pos rfl]; exact ⟨y1, y2, y3⟩
      · unfold Thi; rw [if_pos rfl]; exact ⟨z1, z2⟩
    · obtain ⟨d, x', y', z', e1, e2, e3, s1, s2, s3, w1, w2, w3, q1, q2⟩ := all_step ha hb j1 jG jF ht dF dG hi h.1 h.2.1 h.2.2
      exact ⟨x', y', z', e1, e2, e3, d, s1, s2, s3, ⟨w1, w2, w3⟩, q1⟩
  · obtain ⟨j, j1, jG, jF, ht, dF, dG⟩ := lose_at ha h
    have hl := (out_len hb).1
    have hal := arb_le b
    refine ⟨b, a, j, fun i x y z => Win b i y ∧ Los b a j i x ∧ Thi b i z, hb, Or.inr rfl, j1, by omega, fun x y z x1 x2 x3 y1 y2 y3 z1 z2 => ?_, fun i x y z hi h => ?_⟩
    · refine ⟨?_, ?_, ?_⟩
      · unfold Win; rw [if_pos rfl]; exact ⟨y1, y2, y3⟩
      · unfold Los; rw [if_pos rfl]; exact ⟨x1, x2, x3⟩
      · unfold Thi; rw [if_pos rfl]; exact ⟨z1, z2⟩
    · obtain ⟨d, y', x', z', e1, e2, e3, s1, s2, s3, w1, w2, w3, q1, q2⟩ := all_step hb ha j1 jG jF ht dF dG hi h.1 h.2.1 h.2.2
      refine ⟨x', y', z', e2, e1, e3, ?_, s2, s1, s3, ⟨w1, w2, w3⟩, q2⟩
      rw [Bool.and_comm (drive x) (drive y)]; exact d
def tal (k : Nat) (l : List Ev) : Nat := l.countP (fun e => e.k == k)
def wonOf (w : Fr) (l : List Ev) : Fr := l.foldl (fun w e => if e.k = 2 then e.f else w) w
theorem tal_snoc (k : Nat) (l : List Ev) (e : Ev) : tal k (l ++ [e]) = tal k l + if e.k = k then 1 else 0 := by
  unfold tal
  rw [List.countP_append]
  by_cases h : e.k = k
  · simp [h]
  · simp [h]
theorem won_snoc (w : Fr) (l : List Ev) (e : Ev) : wonOf w (l ++ [e]) = if e.k = 2 then e.f else wonOf w l := by
  unfold wonOf; rw [List.foldl_append]; rfl
def gotAt (F : Fr) (i : Nat) : Nat := if (outB F).length ≤ i + 1 then 2 else 0
def losAt (j i : Nat) : Nat := if j < i then 1 else 0
def senAt (F : Fr) (i : Nat) : Nat := if (outB F).length ≤ i then 1 else 0
def wonAt (F : Fr) (i : Nat) : Fr := if (outB F).length ≤ i + 1 then F else noF
/-- What the events of one bit make of the counts. -/
theorem count_step (F G : Fr) (j i : Nat) (hL : 44 ≤ (outB F).length) (j1 : 1 ≤ j) (hj : j + 11 ≤ (outB F).length) (hi : i < (outB F).length) :
    gotAt F i + tal 2 (evs F G j i) = gotAt F (i + 1) ∧ losAt j i + tal 3 (evs F G j i) = losAt j (i + 1) ∧ senAt F i + tal 1 (evs F G j i) = senAt F (i + 1) ∧ wonOf (wonAt F i) (evs F G j i) = wonAt F (i + 1) := by
  by_cases h0 : i = 0
  · subst h0
    have a1 : gotAt F 0 = 0 := if_neg (by omega)
    have a2 : gotAt F (0 + 1) = 0 := if_neg (by omega)
    have a5 : senAt F 0 = 0 := if_neg (by omega)
    have a6 : senAt F (0 + 1) = 0 := if_neg (by omega)
    have a7 : wonAt F 0 = noF := if_neg (by omega)
    have a8 : wonAt F (0 + 1) = noF := if_neg (by omega)
    have a3 : losAt j 0 = 0 := if_neg (by omega)
    have a4 : losAt j (0 + 1) = 0 := if_neg (by omega)
    have a9 : evs F G j 0 = [⟨6, noF, 0⟩, ⟨6, noF, 0⟩, ⟨6, noF, 0⟩] := by unfold evs; exact if_pos rfl
    rw [a1, a2, a3, a4, a5, a6, a7, a8, a9]
    exact ⟨rfl, rfl, rfl, rfl⟩
  · by_cases h1 : i = j
    · subst h1
      have a1 : gotAt F i = 0 := if_neg (by omega)
      have a2 : gotAt F (i + 1) = 0 := if_neg (by omega)
      have a5 : senAt F i = 0 := if_neg (by omega)
      have a6 : senAt F (i + 1) = 0 := if_neg (by omega)
      have a7 : wonAt F i = noF := if_neg (by omega)
      have a8 : wonAt F (i + 1) = noF := if_neg (by omega)
      have a3 : losAt i i = 0 := if_neg (by omega)
      have a4 : losAt i (i + 1) = 1 := if_pos (by omega)
      have a9 : evs F G i i = [⟨3, G, 0⟩] := by unfold evs; rw [if_neg h0, if_pos rfl]
      rw [a1, a2, a3, a4, a5, a6, a7, a8, a9]
      exact ⟨rfl, rfl, rfl, rfl⟩
    · skip
      have a3 : losAt j (i + 1) = losAt j i := by
        unfold losAt
        by_cases k : j < i
        · rw [if_pos k, if_pos (by omega)]
        · rw [if_neg k, if_neg (by omega)]
      by_cases h2 : i + 2 = (outB F).length
      · skip
        have a1 : gotAt F i = 0 := if_neg (by omega)
        have a2 : gotAt F (i + 1) = 2 := if_pos (by omega)
        have a5 : senAt F i = 0 := if_neg (by omega)
        have a6 : senAt F (i + 1) = 0 := if_neg (by omega)
        have a7 : wonAt F i = noF := if_neg (by omega)
        have a8 : wonAt F (i + 1) = F := if_pos (by omega)
        have a9 : evs F G j i = [⟨2, F, 0⟩, ⟨2, F, 0⟩] := by unfold evs; rw [if_neg h0, if_neg h1, if_pos h2]
        rw [a1, a2, a3, a5, a6, a7, a8, a9]
        exact ⟨rfl, rfl, rfl, rfl⟩
      · by_cases h3 : i + 1 = (outB F).length
        · skip
          have a1 : gotAt F i = 2 := if_pos (by omega)
          have a2 : gotAt F (i + 1) = 2 := if_pos (by omega)
          have a5 : senAt F i = 0 := if_neg (by omega)
          have a6 : senAt F (i + 1) = 1 := if_pos (by omega)
          have a7 : wonAt F i = F := if_pos (by omega)
          have a8 : wonAt F (i + 1) = F := if_pos (by omega)
          have a9 : evs F G j i = [⟨1, F, 0⟩] := by unfold evs; rw [if_neg h0, if_neg h1, if_neg h2, if_pos h3]
          rw [a1, a2, a3, a5, a6, a7, a8, a9]
          exact ⟨rfl, rfl, rfl, rfl⟩
        · skip
          have a1 : gotAt F i = 0 := if_neg (by omega)
          have a2 : gotAt F (i + 1) = 0 := if_neg (by omega)
          have a5 : senAt F i = 0 := if_neg (by omega)
          have a6 : senAt F (i + 1) = 0 := if_neg (by omega)
          have a7 : wonAt F i = noF := if_neg (by omega)
          have a8 : wonAt F (i + 1) = noF := if_neg (by omega)
          have a9 : evs F G j i = [] := by unfold evs; rw [if_neg h0, if_neg h1, if_neg h2, if_neg h3]
          rw [a1, a2, a3, a5, a6, a7, a8, a9]
          exact ⟨rfl, rfl, rfl, rfl⟩
theorem evs_kind (F G : Fr) (j i : Nat) : ∀ v ∈ evs F G j i, v.k = 1 ∨ v.k = 2 ∨ v.k = 3 ∨ v.k = 6 := by
  unfold evs
  intro v hv
  split at hv
  · simp at hv; subst hv; exact Or.inr (Or.inr (Or.inr rfl))
  · split at hv
    · simp at hv; subst hv; exact Or.inr (Or.inr (Or.inl rfl))
    · split at hv
      · simp at hv; subst hv; exact Or.inr (Or.inl rfl)
      · split at hv
        · simp at hv; subst hv; exact Or.inl rfl
        · cases hv
theorem evs_len (F G : Fr) (j i : Nat) : (evs F G j i).length ≤ 3 := by
  unfold evs
  split
  · exact Nat.le_refl 3
  · split
    · show 1 ≤ 3; omega
    · split
      · show 2 ≤ 3; omega
      · split
        · show 1 ≤ 3; omega
        · show 0 ≤ 3; omega
/-- Ones ahead of all. -/
def p5 (k : Nat) : St := if k < 3 then ⟨.pause, 3 - k, false, false, false, false, noF, [], 0, 0⟩ else ⟨.idle, 0, false, false, false, false, noF, [], 0, 0⟩
theorem p5_one (k : Nat) (hk : k < 5) : sample (p5 k) true = (p5 (k + 1), []) := by
  obtain rfl | rfl | rfl | rfl | rfl : k = 0 ∨ k = 1 ∨ k = 2 ∨ k = 3 ∨ k = 4 := by omega
  all_goals rfl
theorem p5_fresh : p5 0 = fresh := rfl
theorem p5_ask (f : Fr) : ask (p5 5) f = if isFr f = false then (12, p5 5) else (0, { p5 5 with has := true, f := f }) := by
  unfold ask
  rw [if_neg (by intro k; cases k)]
  rfl
end Go.Proofs.YtoohmpkhljfpbaaDoor.Mm
/- Plain mathematics: events that all nodes tell of one frame; nothing of the program is in it. -/
namespace Go.Proofs.YtoohmpkhljfpbaaDoor.Mm
open Go.Proofs.YtoohmpkhljfpbaaDoor.Bm Go.Proofs.YtoohmpkhljfpbaaDoor.Fm Go.Proofs.YtoohmpkhljfpbaaDoor.Sm Go.Proofs.YtoohmpkhljfpbaaDoor.Cm
set_option linter.unusedVariables false
theorem pl_succ {α : Type} (n s : Nat) (a b : α) : pl (n + 1) s a b = pl n s a b ++ [if n = s then a else b] := by
  unfold pl
  rw [List.range_succ, List.map_append]
  rfl
theorem pl_none {α : Type} (n s : Nat) (a b : α) (h : n ≤ s) : pl n s a b = List.replicate n b := by
  unfold pl
  apply List.ext_getElem?
  intro j
  rw [List.getElem?_map, List.getElem?_replicate]
  by_cases hj : j < n
  · rw [List.getElem?_range hj, if_pos hj]
    show some (if j = s then a else b) = _
    rw [if_neg (by omega)]
  · rw [List.getElem?_eq_none (by rw [List.length_range]; omega), if_neg hj]
    rfl
theorem flat_rep (n : Nat) (v : Ev) : (List.replicate n [v]).flatten = List.replicate n v := by
  induction n with
  | zero => rfl
  | succ n ih => rw [List.replicate_succ, List.flatten_cons, ih, List.replicate_succ]; rfl
theorem flat_one (n s : Nat) (v : Ev) (hs : s < n) : (pl n s [v] []).flatten = [v] := by
  induction n with
  | zero => omega
  | succ n ih =>
    rw [pl_succ, List.flatten_append]
    by_cases h : n = s
    · subst h
      rw [pl_none n n _ _ (Nat.le_refl _), flat_nil, if_pos rfl]; rfl
    · rw [ih (by omega), if_neg h]; rfl
theorem flat_others (n s : Nat) (v : Ev) (hs : s < n) : (pl n s [] [v]).flatten = List.replicate (n - 1) v := by
  induction n with
  | zero => omega
  | succ n ih =>
    rw [pl_succ, List.flatten_append]
    by_cases h : n = s
    · subst h
      rw [pl_none n n _ _ (Nat.le_refl _), flat_rep, if_pos rfl]
      simp
    · rw [ih (by omega), if_neg h]
      show List.replicate (n - 1) v ++ [v] = List.replicate (n + 1 - 1) v
      rw [show n + 1 - 1 = (n - 1) + 1 by omega, List.replicate_succ']
/-- all that is told at bit i -/
theorem told_one (f : Fr) (n s i : Nat) (hs : s < n) (hL : 44 ≤ oL f) : (pl n s (evS f i) (evL f i)).flatten = if i = 3 then List.replicate n ⟨6, noF, 0⟩ else if i + 2 = 3 + oL f then List.replicate (n - 1) ⟨2, f, 0⟩ else if i + 1 = 3 + oL f then [⟨1, f, 0⟩] else [] := by
  unfold evS evL
  by_cases h3 : i = 3
  · rw [if_pos h3, if_pos h3, if_pos h3, pl_same, flat_rep]
  · rw [if_neg h3, if_neg h3, if_neg h3]
    by_cases h2 : i + 2 = 3 + oL f
    · rw [if_pos h2, if_pos h2, if_neg (show ¬ i + 1 = 3 + oL f by omega), flat_others n s _ hs]
    · rw [if_neg h2, if_neg h2]
      by_cases h1 : i + 1 = 3 + oL f
      · rw [if_pos h1, flat_one n s _ hs]
      · rw [if_neg h1, pl_same, flat_nil]
/-- how many came so far -/
def gotA (f : Fr) (n i : Nat) : Nat := if 1 + oL f < i then n - 1 else 0
def cnt2 (l : List Ev) : Nat := tal 2 l
theorem cnt2_snoc (l : List Ev) (e : Ev) : cnt2 (l ++ [e]) = cnt2 l + if e.k = 2 then 1 else 0 := tal_snoc 2 l e
theorem told_cnt (f : Fr) (n s i : Nat) (hs : s < n) (hL : 44 ≤ oL f) : cnt2 (pl n s (evS f i) (evL f i)).flatten = if i + 2 = 3 + oL f then n - 1 else 0 := by
  rw [told_one f n s i hs hL]
  unfold cnt2 tal
  by_cases h3 : i = 3
  · rw [if_pos h3, if_neg (by omega), List.countP_replicate]; rfl
  · rw [if_neg h3]
    by_cases h2 : i + 2 = 3 + oL f
    · rw [if_pos h2, if_pos h2, List.countP_replicate]; rfl
    · rw [if_neg h2, if_neg h2]
      split <;> rfl
theorem got_step (f : Fr) (n s i : Nat) (hs : s < n) (hL : 44 ≤ oL f) : gotA f n i + cnt2 (pl n s (evS f i) (evL f i)).flatten = gotA f n (i + 1) ∧ (cnt2 (pl n s (evS f i) (evL f i)).flatten = 0 ∨ cnt2 (pl n s (evS f i) (evL f i)).flatten = n - 1) := by
  rw [told_cnt f n s i hs hL]
  unfold gotA
  by_cases h2 : i + 2 = 3 + oL f
  · rw [if_pos h2, if_neg (by omega), if_pos (by omega)]; exact ⟨by omega, Or.inr rfl⟩
  · rw [if_neg h2]
    refine ⟨?_, Or.inl rfl⟩
    by_cases h : 1 + oL f < i
    · rw [if_pos h, if_pos (by omega)]; rfl
    · rw [if_neg h, if_neg (by omega)]
theorem told_kind (f : Fr) (n s i : Nat) (hs : s < n) (hL : 44 ≤ oL f) : ∀ v ∈ (pl n s (evS f i) (evL f i)).flatten, v.k = 2 → v.f = f := by
  rw [told_one f n s i hs hL]
  intro v hv
  split at hv
  · intro k; rw [List.eq_of_mem_replicate hv] at k; cases k
  · split at hv
    · intro _; rw [List.eq_of_mem_replicate hv]
    · split at hv
      · intro k; rw [List.mem_singleton.1 hv] at k; cases k
      · cases hv
theorem told_len (f : Fr) (n s i : Nat) (hs : s < n) (hL : 44 ≤ oL f) : (pl n s (evS f i) (evL f i)).flatten.length ≤ n := by
  rw [told_one f n s i hs hL]
  split
  · simp
  · split
    · simp
    · split <;> simp
      omega
end Go.Proofs.YtoohmpkhljfpbaaDoor.Mm
/- Plain mathematics of one node alone on a wire, asked again and again; nothing of the program is in it. -/
namespace Go.Proofs.YtoohmpkhljfpbaaDoor.Mm
open Go.Proofs.YtoohmpkhljfpbaaDoor.Bm Go.Proofs.YtoohmpkhljfpbaaDoor.Fm Go.Proofs.YtoohmpkhljfpbaaDoor.Sm Go.Proofs.YtoohmpkhljfpbaaDoor.Cm
set_option linter.unusedVariables false
/-- with a frame that waits -/
def wt (m : St) : St := { m with has := true }
/-- try t, ahead of bit j, asked -/
def pa (f : Fr) (t j : Nat) : St := if j ≤ oL f - 9 then al f t j else wt (al f t j)
theorem al_late (f : Fr) (t j : Nat) (hL : 44 ≤ oL f) (h1 : oL f - 9 < j) (h2 : j ≤ oL f + 8) : (al f t j).f = f ∧ (al f t j).snd = false ∧ (al f t j).has = false ∧ ((al f t j).ph = .flag ∨ (al f t j).ph = .reco ∨ (al f t j).ph = .pause) := by
  have hoL : oL f = (outB f).length := rfl
  unfold al
  rw [if_neg (by omega), if_neg (by omega)]
  split
  · exact ⟨rfl, rfl, rfl, Or.inl rfl⟩
  · split
    · exact ⟨rfl, rfl, rfl, Or.inr (Or.inl rfl)⟩
    · split
      · exact ⟨rfl, rfl, rfl, Or.inr (Or.inl rfl)⟩
      · exact ⟨rfl, rfl, rfl, Or.inr (Or.inr rfl)⟩
theorem al_early (f : Fr) (t j : Nat) (hL : 44 ≤ oL f) (h : j ≤ oL f - 9) : busy (al f t j) = true ∧ (al f t j).ph ≠ .off := by
  have hoL : oL f = (outB f).length := rfl
  unfold al
  by_cases h0 : j = 0
  · rw [if_pos h0]; exact ⟨rfl, by intro k; cases k⟩
  · rw [if_neg h0, if_pos (by omega)]; exact ⟨rfl, by intro k; cases k⟩
/-- a frame that waits goes along where none begins -/
theorem wt_keep (m : St) (c : Bool) (hp : m.ph = .flag ∨ m.ph = .reco ∨ m.ph = .pause ∧ c = true) : sample (wt m) c = (wt (sample m c).1, (sample m c).2) := by
  obtain ⟨ph, left, first, snd, has, tk, f, bits, cs, cg⟩ := m
  rcases hp with h | h | ⟨h, rfl⟩
  all_goals
    dsimp only at h
    subst h
    unfold wt sample
    dsimp only
  · split <;> rfl
  · unfold recover
    dsimp only
    split
    · rfl
    · split
      · rfl
      · split <;> rfl
  · rw [if_neg (show ¬ true = false by decide), if_neg (show ¬ true = false by decide)]
    split <;> rfl
theorem wt_drive (m : St) (hp : m.ph = .flag ∨ m.ph = .reco ∨ m.ph = .pause) : drive (wt m) = drive m := by
  obtain ⟨ph, left, first, snd, has, tk, f, bits, cs, cg⟩ := m
  rcases hp with h | h | h
  all_goals
    dsimp only at h
    subst h
    rfl
theorem pause_drive (m : St) (hp : m.ph = .pause) : drive m = true := by unfold drive; rw [hp]
/-- one bit of a node that was asked -/
theorem pa_step {f : Fr} (hf : isFr f = true) (t j : Nat) (ht : t < 32) (hj : j ≤ oL f + 8) :
    (sample (pa f t j) (drive (pa f t j))).1 = if j = oL f - 9 then (if t = 31 then offS f else al f t (oL f - 8)) else if j = oL f + 8 then pa f (t + 1) 0 else pa f t (j + 1) := by
  obtain ⟨hL, hL2⟩ := out_len hf
  have hoL : oL f = (outB f).length := rfl
  by_cases h9 : j = oL f - 9
  · rw [if_pos h9]
    obtain ⟨d1, d2⟩ := al_nine hf t ht
    have e : pa f t j = al f t ((outB f).length - 9) := by unfold pa; rw [if_pos (by omega), h9]; rfl
    rw [e, d1, d2]
    by_cases h31 : t = 31
    · rw [if_pos h31, if_pos h31]
    · rw [if_neg h31, if_neg h31]; rfl
  · rw [if_neg h9]
    have hn := al_next hf t j ht (by omega) (by omega)
    by_cases hl : j ≤ oL f - 9
    · have e : pa f t j = al f t j := by unfold pa; rw [if_pos hl]
      rw [e, hn, if_neg (show ¬ j = (outB f).length + 8 by omega), if_neg (show ¬ j = oL f + 8 by omega)]
      unfold pa
      rw [if_pos (show j + 1 ≤ oL f - 9 by omega)]
    · have e : pa f t j = wt (al f t j) := by unfold pa; rw [if_neg hl]
      obtain ⟨a1, a2, a3, a4⟩ := al_late f t j (by omega) (by omega) hj
      rw [e, wt_drive _ a4, wt_keep _ _ (by rcases a4 with k | k | k; exact Or.inl k; exact Or.inr (Or.inl k); exact Or.inr (Or.inr ⟨k, pause_drive _ k⟩)), hn]
      by_cases h8 : j = oL f + 8
      · rw [if_pos h8, if_pos (show j = (outB f).length + 8 by omega)]
        have e1 : pre f (t + 1) 0 = idS false f ((ackB f).take ((outB f).length - 9)) false (8 * ((t + 1 : Nat) : Int)) 0 := by unfold pre; rw [if_pos rfl, if_neg (Nat.succ_ne_zero t)]
        have e2 : pa f (t + 1) 0 = idS true f ((ackB f).take ((outB f).length - 9)) false (8 * ((t + 1 : Nat) : Int)) 0 := by unfold pa al; rw [if_pos (Nat.zero_le _), if_pos rfl, if_neg (Nat.succ_ne_zero t)]
        rw [e1, e2]
        rfl
      · rw [if_neg h8, if_neg (show ¬ j = (outB f).length + 8 by omega)]
        unfold pa
        rw [if_neg (show ¬ j + 1 ≤ oL f - 9 by omega)]
theorem pa_ask {f : Fr} (hf : isFr f = true) (t j : Nat) (hj : j ≤ oL f + 8) : ask (pa f t j) f = (72, pa f t j) := by
  obtain ⟨hL, hL2⟩ := out_len hf
  have hoL : oL f = (outB f).length := rfl
  have hb : busy (pa f t j) = true ∧ (pa f t j).ph ≠ .off := by
    unfold pa
    by_cases hl : j ≤ oL f - 9
    · rw [if_pos hl]; exact al_early f t j (by omega) hl
    · rw [if_neg hl]
      obtain ⟨a1, a2, a3, a4⟩ := al_late f t j (by omega) (by omega) hj
      refine ⟨rfl, ?_⟩
      show (al f t j).ph ≠ _
      rcases a4 with k | k | k <;> (rw [k]; intro q; cases q)
  unfold ask
  rw [if_neg hb.2, if_neg (by rw [hf]; decide), if_pos hb.1]
theorem al_ask {f : Fr} (hf : isFr f = true) (t : Nat) : ask (al f t (oL f - 8)) f = (0, pa f t (oL f - 8)) := by
  obtain ⟨hL, hL2⟩ := out_len hf
  have hoL : oL f = (outB f).length := rfl
  obtain ⟨a1, a2, a3, a4⟩ := al_late f t (oL f - 8) (by omega) (by omega) (by omega)
  have e : pa f t (oL f - 8) = wt (al f t (oL f - 8)) := by unfold pa; rw [if_neg (by omega)]
  rw [e]
  have hb : busy (al f t (oL f - 8)) = false := by unfold busy; rw [a2, a3]; rfl
  have ho : (al f t (oL f - 8)).ph ≠ .off := by rcases a4 with k | k | k <;> (rw [k]; intro q; cases q)
  unfold ask
  rw [if_neg ho, if_neg (by rw [hf]; decide), hb, if_neg (by decide)]
  generalize al f t (oL f - 8) = m at *
  cases m
  dsimp only at a1
  subst a1
  rfl
/-- asked, ahead of step i -/
def Ast (f : Fr) (i : Nat) (m : St) : Prop := (i < 3 ∧ m = pz (3 - i) true f [] false 0 0) ∨ ∃ t j, t < 32 ∧ j ≤ oL f + 8 ∧ i = 3 + t * (oL f + 9) + j ∧ m = pa f t j ∧ (t = 31 → j ≤ oL f - 9)
/-- ahead of what is asked for -/
def Bst (f : Fr) (i : Nat) (m : St) : Prop := (i = 0 ∧ m = fresh) ∨ Ast f i m ∨ (∃ t, t < 31 ∧ i = 3 + t * (oL f + 9) + (oL f - 8) ∧ m = al f t (oL f - 8)) ∨ (i ≤ 8000 ∧ m = offS f)
theorem ast_top {f : Fr} (hf : isFr f = true) (hT : oL f ≤ 160) {i : Nat} {m : St} (h : Ast f i m) : i ≤ 7900 := by
  rcases h with ⟨h, _⟩ | ⟨t, j, h1, h2, h3, _, _⟩
  · omega
  · have : t * (oL f + 9) ≤ 31 * (oL f + 9) := Nat.mul_le_mul_right _ (by omega)
    omega
theorem bst_top {f : Fr} (hf : isFr f = true) (hT : oL f ≤ 160) {i : Nat} {m : St} (h : Bst f i m) : i ≤ 8000 := by
  rcases h with ⟨rfl, _⟩ | h | ⟨t, h1, h2, _⟩ | ⟨h, _⟩
  · omega
  · have := ast_top hf hT h; omega
  · have : t * (oL f + 9) ≤ 31 * (oL f + 9) := Nat.mul_le_mul_right _ (by omega)
    omega
  · exact h
theorem bst_ask {f : Fr} (hf : isFr f = true) {i : Nat} {m : St} (h : Bst f i m) : m = offS f ∨ ∃ k m', ask m f = (k, m') ∧ k ≠ 73 ∧ k ≤ 72 ∧ Ast f i m' := by
  obtain ⟨hL, hL2⟩ := out_len hf
  have hoL : oL f = (outB f).length := rfl
  rcases h with ⟨rfl, rfl⟩ | h | ⟨t, h1, h2, rfl⟩ | ⟨_, h⟩
  · right
    refine ⟨0, pz 3 true f [] false 0 0, ?_, by decide, by decide, Or.inl ⟨by decide, rfl⟩⟩
    unfold ask
    rw [if_neg (by intro k; cases k), if_neg (by rw [hf]; decide)]
    rfl
  · right
    rcases h with ⟨h, rfl⟩ | ⟨t, j, h1, h2, h3, rfl, h5⟩
    · refine ⟨72, _, ?_, by decide, by decide, Or.inl ⟨h, rfl⟩⟩
      unfold ask
      rw [if_neg (by intro k; cases k), if_neg (by rw [hf]; decide)]
      rfl
    · exact ⟨72, _, pa_ask hf t j h2, by decide, by decide, Or.inr ⟨t, j, h1, h2, h3, rfl, h5⟩⟩
  · right
    exact ⟨0, _, al_ask hf t, by decide, by decide, Or.inr ⟨t, oL f - 8, by omega, by omega, h2, rfl, fun k => by omega⟩⟩
  · exact Or.inl h
theorem ast_step {f : Fr} (hf : isFr f = true) (hT : oL f ≤ 160) {i : Nat} {m : St} (h : Ast f i m) : Bst f (i + 1) (sample m (drive m)).1 := by
  obtain ⟨hL, hL2⟩ := out_len hf
  have hoL : oL f = (outB f).length := rfl
  have htop := ast_top hf hT h
  rcases h with ⟨h, rfl⟩ | ⟨t, j, h1, h2, h3, rfl, h5⟩
  · right; left
    have hd : drive (pz (3 - i) true f [] false 0 0) = true := rfl
    rw [hd]
    by_cases hi : i = 2
    · subst hi
      right
      refine ⟨0, 0, by decide, by omega, by omega, ?_, fun k => by cases k⟩
      rw [show 3 - 2 = 1 by decide, pz_last]
      unfold pa al
      rw [if_pos (by omega), if_pos rfl, if_pos rfl]
      rfl
    · left
      refine ⟨by omega, ?_⟩
      rw [show 3 - i = (1 - i) + 2 by omega, pz_one, show 3 - (i + 1) = 1 - i + 1 by omega]
  · rw [pa_step hf t j h1 h2]
    by_cases h9 : j = oL f - 9
    · rw [if_pos h9]
      by_cases h31 : t = 31
      · rw [if_pos h31]
        right; right; right
        exact ⟨by omega, rfl⟩
      · rw [if_neg h31]
        right; right; left
        exact ⟨t, by omega, by omega, rfl⟩
    · rw [if_neg h9]
      right; left; right
      by_cases h8 : j = oL f + 8
      · rw [if_pos h8]
        have hne : t ≠ 31 := fun k => by have := h5 k; omega
        refine ⟨t + 1, 0, by omega, by omega, ?_, rfl, fun _ => by omega⟩
        rw [Nat.succ_mul]
        omega
      · rw [if_neg h8]
        exact ⟨t, j + 1, h1, by omega, by omega, rfl, fun k => by have := h5 k; omega⟩
theorem off_ask (f g : Fr) : ask (offS f) g = (73, offS f) := rfl
theorem off_drive (f : Fr) : drive (offS f) = true := rfl
theorem off_step (f : Fr) (c : Bool) : sample (offS f) c = (offS f, []) := rfl
end Go.Proofs.YtoohmpkhljfpbaaDoor.Mm
