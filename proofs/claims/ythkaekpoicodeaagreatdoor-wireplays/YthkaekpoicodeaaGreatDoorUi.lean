/- Plain mathematics of a lost arbitration: where two frames' bits part; nothing of the program is in it. -/
import Derived.Test.YthkaekpoicodeaaGreatDoorUe
import Derived.Test.YthkaekpoicodeaaGreatDoorU1
import Derived.Test.YthkaekpoicodeaaGreatDoorMh
namespace Go.Proofs.YthkaekpoicodeaaGreatDoor.Mm
open Go.Proofs.YthkaekpoicodeaaGreatDoor.Bm Go.Proofs.YthkaekpoicodeaaGreatDoor.Fm Go.Proofs.YthkaekpoicodeaaGreatDoor.Sm Go.Proofs.YthkaekpoicodeaaGreatDoor.Cm
set_option linter.unusedVariables false
end Go.Proofs.YthkaekpoicodeaaGreatDoor.Mm
/- Plain mathematics of a lost arbitration: three nodes, bit by bit; nothing of the program is in it. -/
namespace Go.Proofs.YthkaekpoicodeaaGreatDoor.Mm
open Go.Proofs.YthkaekpoicodeaaGreatDoor.Bm Go.Proofs.YthkaekpoicodeaaGreatDoor.Fm Go.Proofs.YthkaekpoicodeaaGreatDoor.Sm Go.Proofs.YthkaekpoicodeaaGreatDoor.Cm
set_option linter.unusedVariables false
/-- All that is told at a bit. -/
def evs (F G : Fr) (j i : Nat) : List Ev := if i = 0 then [⟨6, noF, 0⟩, ⟨6, noF, 0⟩, ⟨6, noF, 0⟩] else if i = j then [⟨3, G, 0⟩] else if i + 2 = (outB F).length then [⟨2, F, 0⟩, ⟨2, F, 0⟩] else if i + 1 = (outB F).length then [⟨1, F, 0⟩] else []
/-- The one that wins. -/
def Win (F : Fr) (i : Nat) (m : St) : Prop := if i = 0 then m.ph = .idle ∧ m.has = true ∧ m.f = F else i < (outB F).length → m.ph = .inFr ∧ m.snd = true ∧ m.f = F ∧ m.bits = (ackB F).take i
/-- One that listens. -/
def Lis (F : Fr) (i : Nat) (m : St) : Prop := i < (outB F).length → m.ph = .inFr ∧ m.snd = false ∧ m.bits = (ackB F).take i ∧ m.tk = decide (i + 1 = (outB F).length)
/-- A third one. -/
def Thi (F : Fr) (i : Nat) (m : St) : Prop := if i = 0 then m.ph = .idle ∧ m.has = false else Lis F i m
/-- The one that loses at j. -/
def Los (F G : Fr) (j i : Nat) (m : St) : Prop := if i = 0 then m.ph = .idle ∧ m.has = true ∧ m.f = G else if i ≤ j then m.ph = .inFr ∧ m.snd = true ∧ m.f = G ∧ m.bits = (ackB F).take i ∧ m.tk = false else Lis F i m
def wire (F : Fr) (i : Nat) : Bool := (ackB F).getD i true
end Go.Proofs.YthkaekpoicodeaaGreatDoor.Mm
/- Plain mathematics of nodes on one wire; nothing of the program is in it. -/
namespace Go.Proofs.YthkaekpoicodeaaGreatDoor.Mm
open Go.Proofs.YthkaekpoicodeaaGreatDoor.Bm Go.Proofs.YthkaekpoicodeaaGreatDoor.Fm Go.Proofs.YthkaekpoicodeaaGreatDoor.Sm Go.Proofs.YthkaekpoicodeaaGreatDoor.Cm
set_option linter.unusedVariables false
/-- Nodes, the wire's bits, what each heard; where nodes and wire lie (names alone). -/
structure Wi where
  ms : List St
  bs : List Bool
  hs : List (List Ev)
  qs : List Nat
  qb : Nat
/-- the latest hundred -/
def lst (l : List Ev) : List Ev := l.drop (l.length - 100)
theorem lst_len (l : List Ev) : (lst l).length ≤ 100 := by unfold lst; rw [List.length_drop]; omega
theorem lst_id {l : List Ev} (h : l.length ≤ 100) : lst l = l := by unfold lst; rw [Nat.sub_eq_zero_of_le h]; rfl
/-- what all see -/
def wbit (ms : List St) (fl : Bool) : Bool := (ms.all drive) != fl
def wmap (ms : List St) (c : Bool) : List St := ms.map (fun m => (sample m c).1)
def wevs (ms : List St) (c : Bool) : List Ev := ms.flatMap (fun m => (sample m c).2)
def wheard (ms : List St) (hs : List (List Ev)) (c : Bool) : List (List Ev) := List.zipWith (fun m h => lst (h ++ (sample m c).2)) ms hs
def wnext (W : Wi) (fl : Bool) : Wi := { W with ms := wmap W.ms (wbit W.ms fl), bs := W.bs ++ [wbit W.ms fl], hs := wheard W.ms W.hs (wbit W.ms fl) }
def wtold (W : Wi) (fl : Bool) : List Ev := wevs W.ms (wbit W.ms fl)
def wask (W : Wi) (who : Int) (f : Fr) : Nat × Wi :=
  if 0 ≤ who ∧ who < W.ms.length then ((ask (W.ms.getD who.toNat fresh) f).1, { W with ms := W.ms.set who.toNat (ask (W.ms.getD who.toNat fresh) f).2 }) else (141, W)
def wnew (k : Nat) (qs : List Nat) (qb : Nat) : Wi := ⟨List.replicate k fresh, [], List.replicate k [], qs, qb⟩
def heldN (n : Int) : Nat := (max 1 (min n 8)).toNat
/-- One node among others, which are alike. -/
def pl {α : Type} (n s : Nat) (a b : α) : List α := (List.range n).map (fun j => if j = s then a else b)
theorem pl_len {α : Type} (n s : Nat) (a b : α) : (pl n s a b).length = n := by unfold pl; rw [List.length_map, List.length_range]
theorem pl_map {α β : Type} (f : α → β) (n s : Nat) (a b : α) : (pl n s a b).map f = pl n s (f a) (f b) := by
  unfold pl
  rw [List.map_map]
  apply congrArg (fun g => (List.range n).map g)
  funext j
  show f (if j = s then a else b) = _
  split <;> rfl
theorem pl_get {α : Type} (n s : Nat) (a b d : α) (j : Nat) (hj : j < n) : (pl n s a b).getD j d = if j = s then a else b := by
  unfold pl
  rw [List.getD_eq_getElem?_getD, List.getElem?_map, List.getElem?_range hj]
  rfl
theorem pl_get? {α : Type} (n s : Nat) (a b : α) (j : Nat) (hj : j < n) : (pl n s a b)[j]? = some (if j = s then a else b) := by
  unfold pl
  rw [List.getElem?_map, List.getElem?_range hj]
  rfl
theorem pl_zip {α β γ : Type} (f : α → β → γ) (n s : Nat) (a b : α) (c d : β) : List.zipWith f (pl n s a b) (pl n s c d) = pl n s (f a c) (f b d) := by
  unfold pl
  apply List.ext_getElem?
  intro j
  rw [List.getElem?_zipWith, List.getElem?_map, List.getElem?_map, List.getElem?_map]
  by_cases hj : j < n
  · rw [List.getElem?_range hj]
    simp only [Option.map_some]
    split <;> rfl
  · rw [List.getElem?_eq_none (by rw [List.length_range]; omega)]
    rfl
theorem pl_same {α : Type} (n s : Nat) (a : α) : pl n s a a = List.replicate n a := by
  unfold pl
  apply List.ext_getElem?
  intro j
  rw [List.getElem?_map, List.getElem?_replicate]
  by_cases hj : j < n
  · rw [List.getElem?_range hj, if_pos hj]
    show some (if j = s then a else a) = _
    split <;> rfl
  · rw [List.getElem?_eq_none (by rw [List.length_range]; omega), if_neg hj]
    rfl
theorem pl_set {α : Type} (n s : Nat) (a b c : α) : (pl n s a b).set s c = pl n s c b := by
  unfold pl
  apply List.ext_getElem?
  intro j
  by_cases hj : j < n
  · rw [List.getElem?_set, List.length_map, List.length_range, List.getElem?_map, List.getElem?_map, List.getElem?_range hj]
    by_cases hs : s = j
    · subst hs; rw [if_pos rfl, if_pos hj]; simp
    · rw [if_neg hs]
      simp only [Option.map_some]
      rw [if_neg (fun e => hs e.symm), if_neg (fun e => hs e.symm)]
  · rw [List.getElem?_eq_none (by simp; omega), List.getElem?_eq_none (by simp; omega)]
theorem pl_all {α : Type} (p : α → Bool) (n s : Nat) (a b : α) (hs : s < n) (hn : 2 ≤ n) : (pl n s a b).all p = (p a && p b) := by
  rw [Bool.eq_iff_iff, List.all_eq_true, Bool.and_eq_true]
  constructor
  · intro h
    refine ⟨?_, ?_⟩
    · exact h a (List.mem_of_getElem? (i := s) (by rw [pl_get? n s a b s hs, if_pos rfl]))
    · obtain ⟨j, hj, hne⟩ : ∃ j, j < n ∧ j ≠ s := by
        by_cases h0 : s = 0
        · exact ⟨1, by omega, by omega⟩
        · exact ⟨0, by omega, by omega⟩
      exact h b (List.mem_of_getElem? (i := j) (by rw [pl_get? n s a b j hj, if_neg hne]))
  · rintro ⟨h1, h2⟩ x hx
    unfold pl at hx
    obtain ⟨j, _, hj⟩ := List.mem_map.1 hx
    rw [← hj]
    split
    · exact h1
    · exact h2
/-- all events of a bit, where one node tells l and each other one k -/
theorem pl_flat {α : Type} (f : α → List Ev) (n s : Nat) (a b : α) : (pl n s a b).flatMap f = (pl n s (f a) (f b)).flatten := by
  rw [← pl_map f, List.flatMap]
/-- wstep keeps one among others that are alike -/
theorem wnext_pl {W : Wi} {n s : Nat} {x y : St} {h g : List Ev} (h1 : W.ms = pl n s x y) (h2 : W.hs = pl n s h g) (fl : Bool) :
    (wnext W fl).ms = pl n s (sample x (wbit W.ms fl)).1 (sample y (wbit W.ms fl)).1 ∧ (wnext W fl).hs = pl n s (lst (h ++ (sample x (wbit W.ms fl)).2)) (lst (g ++ (sample y (wbit W.ms fl)).2)) := by
  unfold wnext wmap wheard
  dsimp only
  rw [h2]
  generalize wbit W.ms fl = c
  rw [h1, pl_map, pl_zip]
  exact ⟨rfl, rfl⟩
end Go.Proofs.YthkaekpoicodeaaGreatDoor.Mm
/- Plain mathematics of one frame among nodes that have nothing to send; nothing of the program is in it. -/
namespace Go.Proofs.YthkaekpoicodeaaGreatDoor.Mm
open Go.Proofs.YthkaekpoicodeaaGreatDoor.Bm Go.Proofs.YthkaekpoicodeaaGreatDoor.Fm Go.Proofs.YthkaekpoicodeaaGreatDoor.Sm Go.Proofs.YthkaekpoicodeaaGreatDoor.Cm
set_option linter.unusedVariables false
def oL (f : Fr) : Nat := (outB f).length
/-- who sends, ahead of bit i; who listens -/
def snA (f : Fr) (i : Nat) : St := if i < 3 then pz (3 - i) true f [] false 0 0 else if i < 3 + oL f then tst f [] false 0 0 (i - 3) else if i < 6 + oL f then pz (6 + oL f - i) false f (ackB f) false 0 0 else idS false f (ackB f) false 0 0
def lsA (f : Fr) (i : Nat) : St := if i < 3 then pz (3 - i) false noF [] false 0 0 else if i < 3 + oL f then hs false noF f (i - 3) else if i < 6 + oL f then pz (6 + oL f - i) false noF ((ackB f).take (oL f - 1)) true 0 0 else idS false noF ((ackB f).take (oL f - 1)) true 0 0
def btA (f : Fr) (i : Nat) : Bool := if 3 ≤ i ∧ i < 3 + oL f then (ackB f).getD (i - 3) true else true
def evS (f : Fr) (i : Nat) : List Ev := if i = 3 then [⟨6, noF, 0⟩] else if i + 1 = 3 + oL f then [⟨1, f, 0⟩] else []
def evL (f : Fr) (i : Nat) : List Ev := if i = 3 then [⟨6, noF, 0⟩] else if i + 2 = 3 + oL f then [⟨2, f, 0⟩] else []
theorem sn_step {f : Fr} (hf : isFr f = true) (i : Nat) : sample (snA f i) (btA f i) = (snA f (i + 1), evS f i) := by
  obtain ⟨hL, hL2⟩ := out_len hf
  have hoL : oL f = (outB f).length := rfl
  have hlen : (ackB f).length = oL f := ack_len f
  unfold snA btA evS
  by_cases h3 : i < 3
  · rw [if_pos h3, if_neg (show ¬ (3 ≤ i ∧ i < 3 + oL f) by omega), if_neg (show ¬ i = 3 by omega), if_neg (show ¬ i + 1 = 3 + oL f by omega)]
    by_cases h2 : i = 2
    · subst h2
      rw [if_neg (show ¬ 2 + 1 < 3 by omega), if_pos (show 2 + 1 < 3 + oL f by omega), pz_last]
      rfl
    · rw [if_pos (show i + 1 < 3 by omega), show 3 - i = (1 - i) + 2 by omega, pz_one, show 3 - (i + 1) = 1 - i + 1 by omega]
  · rw [if_neg h3, if_neg (show ¬ i + 1 < 3 by omega)]
    by_cases hl : i < 3 + oL f
    · rw [if_pos hl, if_pos ⟨by omega, hl⟩]
      by_cases hz : i + 1 = 3 + oL f
      · rw [if_neg (show ¬ i + 1 < 3 + oL f by omega), if_pos (by omega), if_neg (by omega), if_pos hz, tst_last hf _ _ _ _ (i - 3) (by omega)]
        have e1 : (ackB f).take (i - 3 + 1) = ackB f := List.take_of_length_le (by omega)
        have e2 : 6 + oL f - (i + 1) = 3 := by omega
        rw [e1, e2]
        rfl
      · rw [if_pos (show i + 1 < 3 + oL f by omega), if_neg hz, tst_bit hf _ _ _ _ (i - 3) (by omega), show i - 3 + 1 = i + 1 - 3 by omega]
        by_cases hi : i = 3
        · subst hi; rfl
        · rw [if_neg (show ¬ i - 3 = 0 by omega), if_neg hi]
    · rw [if_neg hl, if_neg (show ¬ (3 ≤ i ∧ i < 3 + oL f) by omega), if_neg (show ¬ i + 1 < 3 + oL f by omega), if_neg (show ¬ i = 3 by omega), if_neg (show ¬ i + 1 = 3 + oL f by omega)]
      by_cases h6 : i < 6 + oL f
      · rw [if_pos h6]
        by_cases h5 : i + 1 < 6 + oL f
        · rw [if_pos h5, show 6 + oL f - i = (4 + oL f - i) + 2 by omega, pz_one, show 6 + oL f - (i + 1) = 4 + oL f - i + 1 by omega]
        · rw [if_neg h5, show 6 + oL f - i = 1 by omega, pz_last]
      · rw [if_neg h6, if_neg (by omega), idS_one]
theorem ls_step {f : Fr} (hf : isFr f = true) (i : Nat) : sample (lsA f i) (btA f i) = (lsA f (i + 1), evL f i) := by
  obtain ⟨hL, hL2⟩ := out_len hf
  have hoL : oL f = (outB f).length := rfl
  unfold lsA btA evL
  by_cases h3 : i < 3
  · rw [if_pos h3, if_neg (show ¬ (3 ≤ i ∧ i < 3 + oL f) by omega), if_neg (show ¬ i = 3 by omega), if_neg (show ¬ i + 2 = 3 + oL f by omega)]
    by_cases h2 : i = 2
    · subst h2
      rw [if_neg (show ¬ 2 + 1 < 3 by omega), if_pos (show 2 + 1 < 3 + oL f by omega), pz_last]
      rfl
    · rw [if_pos (show i + 1 < 3 by omega), show 3 - i = (1 - i) + 2 by omega, pz_one, show 3 - (i + 1) = 1 - i + 1 by omega]
  · rw [if_neg h3, if_neg (show ¬ i + 1 < 3 by omega)]
    by_cases hl : i < 3 + oL f
    · rw [if_pos hl, if_pos ⟨by omega, hl⟩]
      by_cases hz : i + 1 = 3 + oL f
      · rw [if_neg (show ¬ i + 1 < 3 + oL f by omega), if_pos (by omega), if_neg (by omega), if_neg (by omega), hs_last false noF hf (i - 3) (by omega)]
        rw [show i - 3 + 1 = (outB f).length by omega, hs_end false noF hf, show 6 + oL f - (i + 1) = 3 by omega]
        rfl
      · rw [if_pos (show i + 1 < 3 + oL f by omega)]
        by_cases hi : i = 3
        · subst hi
          rw [if_pos rfl]
          exact hs_zero noF hf
        · rw [if_neg hi, hs_bit false noF hf (i - 3) (by omega) (by omega), show i - 3 + 1 = i + 1 - 3 by omega]
          by_cases h2 : i + 2 = 3 + oL f
          · rw [if_pos h2, if_pos (by omega)]
          · rw [if_neg h2, if_neg (by omega)]
    · rw [if_neg hl, if_neg (show ¬ (3 ≤ i ∧ i < 3 + oL f) by omega), if_neg (show ¬ i + 1 < 3 + oL f by omega), if_neg (show ¬ i = 3 by omega), if_neg (show ¬ i + 2 = 3 + oL f by omega)]
      by_cases h6 : i < 6 + oL f
      · rw [if_pos h6]
        by_cases h5 : i + 1 < 6 + oL f
        · rw [if_pos h5, show 6 + oL f - i = (4 + oL f - i) + 2 by omega, pz_one, show 6 + oL f - (i + 1) = 4 + oL f - i + 1 by omega]
        · rw [if_neg h5, show 6 + oL f - i = 1 by omega, pz_last]
      · rw [if_neg h6, if_neg (by omega), idS_one]
theorem pz_drive (k : Nat) (h : Bool) (f : Fr) (b : List Bool) (tk : Bool) (s g : Int) : drive (pz k h f b tk s g) = true := rfl
theorem both_drive {f : Fr} (hf : isFr f = true) (i : Nat) : (drive (snA f i) && drive (lsA f i)) = btA f i := by
  obtain ⟨hL, hL2⟩ := out_len hf
  have hoL : oL f = (outB f).length := rfl
  unfold snA lsA btA
  by_cases h3 : i < 3
  · rw [if_pos h3, if_pos h3, if_neg (by omega), pz_drive, pz_drive]; rfl
  · rw [if_neg h3, if_neg h3]
    by_cases hl : i < 3 + oL f
    · rw [if_pos hl, if_pos hl, if_pos ⟨by omega, hl⟩, tst_drive _ _ _ _ _ hf (by omega), hs_drive false noF hf (i - 3) (by omega) (fun _ => rfl), ack_get f (i - 3) (by omega)]
      by_cases h9 : i - 3 = (outB f).length - 9
      · rw [if_pos h9, decide_eq_true h9]; simp
      · rw [if_neg h9, decide_eq_false h9]; simp
    · rw [if_neg hl, if_neg hl, if_neg (show ¬ (3 ≤ i ∧ i < 3 + oL f) by omega)]
      split <;> rfl
/-- what each has heard ahead of bit i -/
def hS (f : Fr) (i : Nat) : List Ev := if i ≤ 3 then [] else if i < 3 + oL f then [⟨6, noF, 0⟩] else [⟨6, noF, 0⟩, ⟨1, f, 0⟩]
def hL (f : Fr) (i : Nat) : List Ev := if i ≤ 3 then [] else if i + 1 < 3 + oL f then [⟨6, noF, 0⟩] else [⟨6, noF, 0⟩, ⟨2, f, 0⟩]
theorem hS_step {f : Fr} (hf : isFr f = true) (i : Nat) : lst (hS f i ++ evS f i) = hS f (i + 1) := by
  obtain ⟨hL, hL2⟩ := out_len hf
  have hoL : oL f = (outB f).length := rfl
  have e : hS f i ++ evS f i = hS f (i + 1) := by
    unfold hS evS
    by_cases h3 : i = 3
    · subst h3; rw [if_pos (by omega), if_pos rfl, if_neg (by omega), if_pos (by omega)]; rfl
    · rw [if_neg h3]
      by_cases h4 : i ≤ 3
      · rw [if_pos h4, if_pos (show i + 1 ≤ 3 by omega), if_neg (show ¬ i + 1 = 3 + oL f by omega)]; rfl
      · rw [if_neg h4, if_neg (show ¬ i + 1 ≤ 3 by omega)]
        by_cases hz : i + 1 = 3 + oL f
        · rw [if_pos (by omega), if_pos hz, if_neg (by omega)]; rfl
        · rw [if_neg hz]
          by_cases hl : i < 3 + oL f
          · rw [if_pos hl, if_pos (by omega)]; rfl
          · rw [if_neg hl, if_neg (by omega)]; rfl
  rw [e]
  apply lst_id
  unfold hS
  split
  · simp
  · split <;> simp
theorem hL_step {f : Fr} (hf : isFr f = true) (i : Nat) : lst (hL f i ++ evL f i) = hL f (i + 1) := by
  obtain ⟨hL', hL2⟩ := out_len hf
  have hoL : oL f = (outB f).length := rfl
  have e : hL f i ++ evL f i = hL f (i + 1) := by
    unfold hL evL
    by_cases h3 : i = 3
    · subst h3; rw [if_pos (by omega), if_pos rfl, if_neg (by omega), if_pos (by omega)]; rfl
    · rw [if_neg h3]
      by_cases h4 : i ≤ 3
      · rw [if_pos h4, if_pos (show i + 1 ≤ 3 by omega), if_neg (show ¬ i + 2 = 3 + oL f by omega)]; rfl
      · rw [if_neg h4, if_neg (show ¬ i + 1 ≤ 3 by omega)]
        by_cases hz : i + 2 = 3 + oL f
        · rw [if_pos (by omega), if_pos hz, if_neg (by omega)]; rfl
        · rw [if_neg hz]
          by_cases hl : i + 1 < 3 + oL f
          · rw [if_pos hl, if_pos (by omega)]; rfl
          · rw [if_neg hl, if_neg (by omega)]; rfl
  rw [e]
  apply lst_id
  unfold hL
  split
  · simp
  · split <;> simp
/-- The wire behind i bits: node s sends f, all others listen. -/
def One (f : Fr) (n s i : Nat) (W : Wi) : Prop := W.ms = pl n s (snA f i) (lsA f i) ∧ W.hs = pl n s (hS f i) (hL f i) ∧ W.bs.length = i
theorem one_start {f : Fr} (hf : isFr f = true) (n s : Nat) (hs : s < n) (qs : List Nat) (qb : Nat) : ∃ W', wask (wnew n qs qb) (s : Int) f = (0, W') ∧ One f n s 0 W' ∧ W'.qs = qs ∧ W'.qb = qb := by
  have hl : (wnew n qs qb).ms.length = n := by show (List.replicate n fresh).length = n; simp
  unfold wask
  rw [if_pos ⟨by omega, by rw [hl]; omega⟩]
  have hg : (wnew n qs qb).ms.getD (s : Int).toNat fresh = fresh := by show (List.replicate n fresh).getD s fresh = fresh; simp [List.getD_eq_getElem?_getD, hs]
  rw [hg]
  have ha : ask fresh f = (0, snA f 0) := by
    unfold ask
    rw [if_neg (by intro k; cases k), if_neg (by rw [hf]; decide)]
    rfl
  rw [ha]
  refine ⟨_, rfl, ⟨?_, ?_, rfl⟩, rfl, rfl⟩
  · show (List.replicate n fresh).set s (snA f 0) = _
    rw [← pl_same n s fresh, pl_set]
    rfl
  · show List.replicate n [] = _
    rw [← pl_same n s]
    rfl
theorem one_step {f : Fr} (hf : isFr f = true) {n s i : Nat} (hs : s < n) (hn : 2 ≤ n) {W : Wi} (h : One f n s i W) : wbit W.ms false = btA f i ∧ One f n s (i + 1) (wnext W false) ∧ wtold W false = (pl n s (evS f i) (evL f i)).flatten := by
  obtain ⟨h1, h2, h3⟩ := h
  have hb : wbit W.ms false = btA f i := by
    unfold wbit
    rw [h1, pl_all drive n s _ _ hs hn, both_drive hf]
    cases btA f i <;> rfl
  obtain ⟨k1, k2⟩ := wnext_pl h1 h2 false
  rw [hb, sn_step hf, ls_step hf] at k1 k2
  refine ⟨hb, ⟨k1, ?_, ?_⟩, ?_⟩
  · rw [k2, hS_step hf, hL_step hf]
  · show (W.bs ++ [wbit W.ms false]).length = i + 1
    rw [List.length_append, h3]; rfl
  · unfold wtold wevs
    rw [hb, h1, pl_flat, sn_step hf, ls_step hf]
end Go.Proofs.YthkaekpoicodeaaGreatDoor.Mm
