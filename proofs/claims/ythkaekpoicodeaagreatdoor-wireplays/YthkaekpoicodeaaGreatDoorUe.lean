/- Plain mathematics of counters of errors; nothing of the program is in it. -/
import Derived.Test.YthkaekpoicodeaaGreatDoorRows
import Derived.Test.YthkaekpoicodeaaGreatDoorU1
namespace Go.Proofs.YthkaekpoicodeaaGreatDoor.Km
def isC (s g : Int) : Bool := decide (0 ≤ s ∧ s ≤ 1000 ∧ 0 ≤ g ∧ g ≤ 1000)
def sentV (s : Int) (ok : Bool) : Int := if ok then max 0 (s - 1) else min 1000 (s + 8)
def gotV (g : Int) (ok : Bool) : Int := if ok then (if 127 < g then 120 else max 0 (g - 1)) else min 1000 (g + 1)
def sentS (s g : Int) (ok : Bool) : Int := if isC s g then sentV s ok else s
def gotG (s g : Int) (ok : Bool) : Int := if isC s g then gotV g ok else g
def offC (s : Int) : Bool := decide (256 ≤ s)
def pasC (s g : Int) : Bool := !offC s && (decide (128 ≤ s) || decide (128 ≤ g))
theorem isC_true {s g : Int} (h1 : 0 ≤ s) (h2 : s ≤ 1000) (h3 : 0 ≤ g) (h4 : g ≤ 1000) : isC s g = true := decide_eq_true ⟨h1, h2, h3, h4⟩
theorem isC_parts {s g : Int} (h : isC s g = true) : 0 ≤ s ∧ s ≤ 1000 ∧ 0 ≤ g ∧ g ≤ 1000 := of_decide_eq_true h
theorem sentV_range {s : Int} (ok : Bool) (h1 : 0 ≤ s) (h2 : s ≤ 1000) : 0 ≤ sentV s ok ∧ sentV s ok ≤ 1000 := by unfold sentV; split <;> omega
theorem gotV_range {g : Int} (ok : Bool) (h1 : 0 ≤ g) (h2 : g ≤ 1000) : 0 ≤ gotV g ok ∧ gotV g ok ≤ 1000 := by
  unfold gotV
  split
  · split <;> omega
  · omega
end Go.Proofs.YthkaekpoicodeaaGreatDoor.Km
/- Plain mathematics of a node on the wire, bit by bit: the document's node; nothing of the program is in it. -/
namespace Go.Proofs.YthkaekpoicodeaaGreatDoor.Mm
open Go.Proofs.YthkaekpoicodeaaGreatDoor.Bm Go.Proofs.YthkaekpoicodeaaGreatDoor.Fm Go.Proofs.YthkaekpoicodeaaGreatDoor.Sm Go.Proofs.YthkaekpoicodeaaGreatDoor.Cm
/-- what the reader holds behind a row of bits -/
def feed (a : List Bool) : Rd := a.foldl (fun s c => (bit s c).2) Rd.new
/-- what the next bit tells -/
def code (a : List Bool) (c : Bool) : Nat := (bit (feed a) c).1
/-- more bits are needed: nothing is told so far -/
def Good (a : List Bool) : Prop := (dec a).2.2 = 10
theorem feed_snoc (a : List Bool) (c : Bool) : feed (a ++ [c]) = (bit (feed a) c).2 := by unfold feed; rw [List.foldl_append]; rfl
theorem dB_ten (a : List Bool) : ∀ (s : Rd) (i : Nat), (dB s i a).2.2 = 10 → ∀ l, dB s i (a ++ l) = dB (a.foldl (fun s c => (bit s c).2) s) (i + a.length) l := by
  induction a with
  | nil => intro s i _ l; rfl
  | cons c a ih =>
    intro s i h l
    have e : dB s i (c :: a) = if (bit s c).1 = 0 then dB (bit s c).2 (i + 1) a else if (bit s c).1 = 1 then ((bit s c).2.frame, i + 1, 0) else (noF, i, (bit s c).1) := rfl
    rw [e] at h
    by_cases h0 : (bit s c).1 = 0
    · rw [if_pos h0] at h
      show (if (bit s c).1 = 0 then dB (bit s c).2 (i + 1) (a ++ l) else _) = _
      rw [if_pos h0, ih _ _ h l]
      show dB _ (i + 1 + a.length) l = dB _ (i + (a.length + 1)) l
      rw [show i + 1 + a.length = i + (a.length + 1) by omega]
      rfl
    · rw [if_neg h0] at h
      rcases bit_code s c with k | k | k | k | k
      · exact absurd k h0
      · rw [if_pos k] at h; cases h
      all_goals
        rw [if_neg (by rw [k]; decide)] at h
        dsimp only at h
        omega
theorem good_dec {a : List Bool} (h : Good a) (l : List Bool) : dec (a ++ l) = dB (feed a) a.length l := by
  have := dB_ten a Rd.new 0 h l
  rw [Nat.zero_add] at this
  exact this
theorem good_one {a : List Bool} (h : Good a) (c : Bool) : dec (a ++ [c]) = if code a c = 0 then (noF, a.length + 1, 10) else if code a c = 1 then ((feed (a ++ [c])).frame, a.length + 1, 0) else (noF, a.length, code a c) := by
  rw [good_dec h, feed_snoc]
  rfl
theorem good_snoc {a : List Bool} (h : Good a) {c : Bool} : Good (a ++ [c]) ↔ code a c = 0 := by
  unfold Good
  rw [good_one h]
  constructor
  · intro k
    by_cases h0 : code a c = 0
    · exact h0
    · rw [if_neg h0] at k
      rcases bit_code (feed a) c with q | q | q | q | q
      · exact absurd q h0
      all_goals
        have q' : code a c = _ := q
        rw [q'] at k
        simp at k
  · intro k; rw [if_pos k]
theorem good_front {a l : List Bool} (h : Good (a ++ l)) : Good a := by
  unfold Good at *
  by_cases h10 : (dec a).2.2 = 10
  · exact h10
  · have := dB_more a Rd.new 0 l h10
    rw [show dec (a ++ l) = dec a from this] at h
    exact h
theorem good_len {a : List Bool} (h : Good a) : a.length < 157 := by
  have := in_room a [] Rd.new in_new h
  simpa using this
theorem code_cases (a : List Bool) (c : Bool) : code a c = 0 ∨ code a c = 1 ∨ code a c = 12 ∨ code a c = 20 ∨ code a c = 40 := bit_code _ _
/-- what a node tells of a bit -/
structure Ev where
  k : Nat
  f : Fr
  e : Nat
inductive Ph | idle | inFr | flag | reco | pause | off
deriving DecidableEq
structure St where
  ph : Ph
  left : Nat
  first : Bool
  snd : Bool
  has : Bool
  tk : Bool
  f : Fr
  bits : List Bool
  cs : Int
  cg : Int
def fresh : St := ⟨.pause, 3, false, false, false, false, noF, [], 0, 0⟩
def isFr (f : Fr) : Bool := isF f.1 f.2.1 f.2.2.1 f.2.2.2
def outB (f : Fr) : List Bool := enc0 f.1 f.2.1 f.2.2.1 f.2.2.2
def ackB (f : Fr) : List Bool := ack0 f.1 f.2.1 f.2.2.1 f.2.2.2
def arbL (f : Fr) : Nat := (stuff (arb0 f.1 f.2.1 f.2.2.1)).length
def busy (m : St) : Bool := m.has || m.snd
def ask (m : St) (f : Fr) : Nat × St :=
  if m.ph = .off then (73, m) else if isFr f = false then (12, m) else if busy m then (72, m) else (0, { m with has := true, f := f })
def cancel (m : St) : Bool × St := (m.has, { m with has := false })
/-- true: it drives a 1 -/
def drive (m : St) : Bool :=
  match m.ph with
  | .idle => !m.has
  | .inFr => if m.snd then (outB m.f).getD m.bits.length true else !(decide ((feed m.bits).t = some 1) && (match (feed m.bits).w with | some (_, n) => right (feed m.bits).p n | none => false))
  | .flag => Km.pasC m.cs m.cg
  | _ => true
def start (m : St) (sends : Bool) : St × List Ev := ({ m with ph := .inFr, tk := false, bits := [false], snd := sends, has := if sends then false else m.has }, [⟨6, noF, 0⟩])
def bad (m : St) (e : Ev) : St × List Ev :=
  if Km.offC m.cs then ({ m with snd := false, ph := .off, left := 6, has := false }, [e, ⟨7, noF, 0⟩]) else ({ m with snd := false, ph := .flag, left := 6 }, [e])
def hearing (m : St) (c : Bool) : St × List Ev :=
  if m.tk then ({ m with ph := .pause, left := 3 }, [])
  else if code m.bits c ≠ 0 then bad { m with cg := Km.gotG m.cs m.cg false } ⟨5, noF, code m.bits c⟩
  else if (feed (m.bits ++ [c])).t = some 9 then ({ m with bits := m.bits ++ [c], tk := true, cg := Km.gotG m.cs m.cg true }, [⟨2, (feed (m.bits ++ [c])).frame, 0⟩])
  else ({ m with bits := m.bits ++ [c] }, [])
def sending (m : St) (c : Bool) : St × List Ev :=
  if (outB m.f).getD m.bits.length true = true ∧ c = false ∧ m.bits.length + 1 ≤ arbL m.f then
    ((hearing { m with snd := false } c).1, ⟨3, m.f, 0⟩ :: (hearing { m with snd := false } c).2)
  else if m.bits.length + 1 = (outB m.f).length - 8 ∧ c = true then bad { m with cs := Km.sentS m.cs m.cg false } ⟨4, m.f, 71⟩
  else if m.bits.length + 1 ≠ (outB m.f).length - 8 ∧ (outB m.f).getD m.bits.length true ≠ c then bad { m with cs := Km.sentS m.cs m.cg false } ⟨4, m.f, 70⟩
  else if m.bits.length + 1 = (outB m.f).length then ({ m with bits := m.bits ++ [c], cs := Km.sentS m.cs m.cg true, snd := false, ph := .pause, left := 3 }, [⟨1, m.f, 0⟩])
  else ({ m with bits := m.bits ++ [c] }, [])
def recover (m : St) (c : Bool) : St :=
  if m.first then { m with first := !c } else if c = false then { m with left := 7 } else if m.left = 1 then { m with ph := .pause, left := 3 } else { m with left := m.left - 1 }
def sample (m : St) (c : Bool) : St × List Ev :=
  match m.ph with
  | .idle => if c then (m, []) else start m m.has
  | .inFr => if m.snd then sending m c else hearing m c
  | .flag => if m.left = 1 then ({ m with ph := .reco, left := 7, first := true }, []) else ({ m with left := m.left - 1 }, [])
  | .reco => (recover m c, [])
  | .pause => if c = false then start m false else if m.left = 1 then ({ m with ph := .idle, left := 0 }, []) else ({ m with left := m.left - 1 }, [])
  | .off => (m, [])
/-- what holds of a node at every time -/
structure Ok (m : St) : Prop where
  cnt : Km.isC m.cs m.cg = true
  good : m.ph = .inFr → Good m.bits ∧ m.bits ≠ []
  snd : m.snd = true → m.ph = .inFr ∧ m.tk = false ∧ isFr m.f = true ∧ m.bits = (ackB m.f).take m.bits.length ∧ m.bits.length < (outB m.f).length
  has : m.has = true → isFr m.f = true ∧ m.snd = false ∧ m.ph ≠ .off
  lis : m.ph = .inFr → m.snd = false → (m.tk = true ↔ (feed m.bits).t = some 9)
  flag : m.ph = .flag → 1 ≤ m.left ∧ m.left ≤ 6
  reco : m.ph = .reco → 1 ≤ m.left ∧ m.left ≤ 7
  pause : m.ph = .pause → 1 ≤ m.left ∧ m.left ≤ 3
end Go.Proofs.YthkaekpoicodeaaGreatDoor.Mm
/- Plain mathematics of a reader bit by bit: where it stands within what was sent. -/
namespace Go.Proofs.YthkaekpoicodeaaGreatDoor.Mm
open Go.Proofs.YthkaekpoicodeaaGreatDoor.Bm Go.Proofs.YthkaekpoicodeaaGreatDoor.Fm Go.Proofs.YthkaekpoicodeaaGreatDoor.Sm Go.Proofs.YthkaekpoicodeaaGreatDoor.Cm
def eat (s : Rd) (a : List Bool) : Rd := a.foldl (fun s c => (bit s c).2) s
theorem eat_cons (s : Rd) (c : Bool) (a : List Bool) : eat s (c :: a) = eat (bit s c).2 a := rfl
theorem eat_nil (s : Rd) : eat s [] = s := rfl
theorem eat_append (s : Rd) (a b : List Bool) : eat s (a ++ b) = eat (eat s a) b := by unfold eat; rw [List.foldl_append]
theorem feed_eat (a : List Bool) : feed a = eat Rd.new a := rfl
theorem feed_append (a b : List Bool) : feed (a ++ b) = eat (feed a) b := eat_append _ _ _
theorem eat_to {x : Bool} {n : Nat} {r : Bool} {d : List UInt8} (hi : isF x n r d = true) (Q : List Bool) (hQ : Q.length = 15) (rest : List Bool) : ∀ (k : Nat) (q : Nat × Bool) (m : Nat), (body0 x n r d ++ Q).drop k = rest → k ≤ (body0 x n r d ++ Q).length → q.1 < 5 → m ≤ (stB q [] rest).length →
    Mid (x, n, r, d) (body0 x n r d).length (body0 x n r d ++ Q) (eat (at_ (x, n, r, d) (body0 x n r d).length (body0 x n r d ++ Q) q k) ((stB q [] rest).take m)) ((stB q [] rest).drop m) := by
  induction rest with
  | nil =>
    intro k q m hd hk hq hm
    obtain rfl : m = 0 := by simpa [stB] using hm
    exact Or.inl ⟨k, hk, rfl, hq, by rw [hd]; rfl⟩
  | cons c t ih =>
    intro k q m hd hk hq hm
    have hk2 : k < (body0 x n r d ++ Q).length := by
      have := congrArg List.length hd
      rw [List.length_drop, List.length_cons] at this
      omega
    have hc : (body0 x n r d ++ Q)[k] = c ∧ (body0 x n r d ++ Q).drop (k + 1) = t := by
      rw [List.drop_eq_getElem_cons hk2] at hd
      injection hd with h1 h2
      exact ⟨h1, h2⟩
    cases m with
    | zero => exact Or.inl ⟨k, hk, rfl, hq, by rw [hd]; rfl⟩
    | succ m =>
      have hb := bit_plain hi Q hQ q k hq hk2
      rw [hc.1] at hb
      by_cases h5 : (Sm.step q c).1 = 5
      · have hs : Sm.step q c = (5, c) := Prod.ext h5 (step_snd q c)
        rw [stB_cons5 q c t h5] at hm ⊢
        rw [hs, if_neg (fun h => h.2 rfl)] at hb
        cases m with
        | zero =>
          rw [List.take_succ_cons, List.take_zero, eat_cons, hb, eat_nil]
          exact Or.inr ⟨k + 1, c, hk2, rfl, by rw [List.drop_succ_cons, List.drop_zero, hc.2]⟩
        | succ m =>
          have h3 := ih (k + 1) (1, !c) m hc.2 hk2 (show 1 < 5 by decide) (by simpa using hm)
          rw [List.take_succ_cons, List.take_succ_cons, eat_cons, eat_cons, hb, bit_laid Q hQ c (k + 1) hk2, List.drop_succ_cons, List.drop_succ_cons]
          exact h3
      · rw [stB_cons q c t h5] at hm ⊢
        have hle := step_le q c
        have e2 : (if k + 1 = (body0 x n r d ++ Q).length ∧ (Sm.step q c).1 ≠ 5 then some 0 else none) = tOf (body0 x n r d ++ Q).length (k + 1) := by
          unfold tOf
          by_cases h : k + 1 = (body0 x n r d ++ Q).length
          · rw [if_pos h, if_pos ⟨h, h5⟩]
          · rw [if_neg h, if_neg (fun h2 => h h2.1)]
        rw [e2] at hb
        have h3 := ih (k + 1) (Sm.step q c) m hc.2 hk2 (by omega) (by simpa using hm)
        unfold at_ at h3
        rw [List.take_succ_cons, eat_cons, hb, List.drop_succ_cons]
        exact h3
theorem stB_nil_iff (q : Nat × Bool) (l : List Bool) (h : stB q [] l = []) : l = [] := by
  cases l with
  | nil => rfl
  | cons c t =>
    unfold stB at h
    split at h
    · rw [stB_out] at h; simp at h
    · rw [stB_out] at h; simp at h
/-- within what was sent, up to its sum, no bit is behind it -/
theorem feed_in {f : Fr} (hi : isFr f = true) (Q : List Bool) (hQ : Q.length = 15) (k : Nat) (hk : k < (stuff (body0 f.1 f.2.1 f.2.2.1 f.2.2.2 ++ Q)).length) :
    (feed ((stuff (body0 f.1 f.2.1 f.2.2.1 f.2.2.2 ++ Q)).take k)).t = none := by
  obtain ⟨x, n, r, d⟩ := f
  dsimp only at *
  have hbl := length_body0 x n r d
  have e0 : at_ (x, n, r, d) (body0 x n r d).length (body0 x n r d ++ Q) (0, false) 0 = Rd.new := by
    unfold at_ wOf tOf Rd.new
    rw [if_neg (by rw [hbl]; split <;> omega), if_neg (by rw [List.length_append]; omega)]
    rfl
  have h := eat_to hi Q hQ (body0 x n r d ++ Q) 0 (0, false) k (List.drop_zero) (Nat.zero_le _) (by decide) (Nat.le_of_lt hk)
  rw [e0] at h
  have hd : (stB (0, false) [] (body0 x n r d ++ Q)).drop k ≠ [] := by
    intro e
    have := congrArg List.length e
    rw [List.length_drop, List.length_nil] at this
    have hk' : k < (stB (0, false) [] (body0 x n r d ++ Q)).length := hk
    omega
  rcases h with ⟨j, hj, hs, _, hr⟩ | ⟨j, c, hj, hs, hr⟩
  · rw [feed_eat]
    show (eat Rd.new ((stB (0, false) [] (body0 x n r d ++ Q)).take k)).t = none
    rw [hs]
    show tOf _ j = none
    unfold tOf
    rw [if_neg]
    intro e
    apply hd
    rw [hr, e, List.drop_length]
    rfl
  · rw [feed_eat]
    show (eat Rd.new ((stB (0, false) [] (body0 x n r d ++ Q)).take k)).t = none
    rw [hs]
/-- behind the sum -/
theorem feed_all {f : Fr} (hi : isFr f = true) (Q : List Bool) (hQ : Q.length = 15) :
    ∃ q, feed (stuff (body0 f.1 f.2.1 f.2.2.1 f.2.2.2 ++ Q)) = ⟨q, body0 f.1 f.2.1 f.2.2.1 f.2.2.2 ++ Q, some (f, (body0 f.1 f.2.1 f.2.2.1 f.2.2.2).length), some 0⟩ := by
  obtain ⟨x, n, r, d⟩ := f
  dsimp only at *
  have hbl := length_body0 x n r d
  have e0 : at_ (x, n, r, d) (body0 x n r d).length (body0 x n r d ++ Q) (0, false) 0 = Rd.new := by
    unfold at_ wOf tOf Rd.new
    rw [if_neg (by rw [hbl]; split <;> omega), if_neg (by rw [List.length_append]; omega)]
    rfl
  have h := eat_to hi Q hQ (body0 x n r d ++ Q) 0 (0, false) _ (List.drop_zero) (Nat.zero_le _) (by decide) (Nat.le_refl _)
  rw [e0, List.take_length, List.drop_length] at h
  rcases h with ⟨j, hj, hs, _, hr⟩ | ⟨j, c, hj, hs, hr⟩
  · have hj2 : j = (body0 x n r d ++ Q).length := by
      have := stB_nil_iff _ _ hr.symm
      rw [List.drop_eq_nil_iff] at this
      exact Nat.le_antisymm hj this
    refine ⟨(eat Rd.new (stB (0, false) [] (body0 x n r d ++ Q))).r, ?_⟩
    rw [feed_eat]
    show eat Rd.new (stB (0, false) [] (body0 x n r d ++ Q)) = _
    conv => lhs; rw [hs]
    unfold at_ wOf tOf
    rw [hj2, if_pos rfl, if_pos (show (body0 x n r d).length ≤ (body0 x n r d ++ Q).length by simp), List.take_length]
  · cases hr
theorem eat_behind (q : Nat × Bool) (P : List Bool) (f : Fr) (bl : Nat) (a : List Bool) : ∀ t, eat ⟨q, P, some (f, bl), some t⟩ a = ⟨q, P, some (f, bl), some (t + a.length)⟩ := by
  induction a with
  | nil => intro t; rfl
  | cons c a ih =>
    intro t
    have hb : (bit ⟨q, P, some (f, bl), some t⟩ c).2 = ⟨q, P, some (f, bl), some (t + 1)⟩ := by
      show (behind _ t c).2 = _
      unfold behind
      repeat' split
      all_goals rfl
    rw [eat_cons, hb, ih, List.length_cons, show t + 1 + a.length = t + (a.length + 1) by omega]
/-- so many bits behind the sum -/
theorem feed_tail {f : Fr} (hi : isFr f = true) (Q : List Bool) (hQ : Q.length = 15) (a : List Bool) :
    ∃ q, feed (stuff (body0 f.1 f.2.1 f.2.2.1 f.2.2.2 ++ Q) ++ a) = ⟨q, body0 f.1 f.2.1 f.2.2.1 f.2.2.2 ++ Q, some (f, (body0 f.1 f.2.1 f.2.2.1 f.2.2.2).length), some a.length⟩ := by
  obtain ⟨q, hq⟩ := feed_all hi Q hQ
  exact ⟨q, by rw [feed_append, hq, eat_behind, Nat.zero_add]⟩
end Go.Proofs.YthkaekpoicodeaaGreatDoor.Mm
/- The document's node: what holds at every time. -/
namespace Go.Proofs.YthkaekpoicodeaaGreatDoor.Mm
open Go.Proofs.YthkaekpoicodeaaGreatDoor.Bm Go.Proofs.YthkaekpoicodeaaGreatDoor.Fm Go.Proofs.YthkaekpoicodeaaGreatDoor.Sm Go.Proofs.YthkaekpoicodeaaGreatDoor.Cm
theorem out_len {f : Fr} (h : isFr f = true) : 44 ≤ (outB f).length ∧ (outB f).length ≤ 200 := by
  obtain ⟨h1, _, h3⟩ := enc_len (x := f.1) (n := f.2.1) (r := f.2.2.1) (d := f.2.2.2) h
  refine ⟨?_, h3⟩
  show 44 ≤ (enc0 f.1 f.2.1 f.2.2.1 f.2.2.2).length
  split at h1 <;> omega
theorem ack_len (f : Fr) : (ackB f).length = (outB f).length := length_ack0 _ _ _ _
theorem out_form (f : Fr) : ∃ P, outB f = P ++ ones 10 ∧ ackB f = P ++ (true :: false :: true :: ones 7) := by
  refine ⟨stuff (plainOf (body0 f.1 f.2.1 f.2.2.1 f.2.2.2) (crc (body0 f.1 f.2.1 f.2.2.1 f.2.2.2))), rfl, ?_⟩
  rfl
theorem ack_get (f : Fr) (k : Nat) (hk : k < (outB f).length) : (ackB f).getD k true = if k = (outB f).length - 9 then false else (outB f).getD k true := by
  obtain ⟨P, h1, h2⟩ := out_form f
  rw [h1] at hk ⊢
  rw [h2]
  simp only [List.length_append, length_ones] at hk ⊢
  rw [List.getD_eq_getElem?_getD, List.getD_eq_getElem?_getD]
  by_cases hp : k < P.length
  · rw [List.getElem?_append_left hp, List.getElem?_append_left hp, if_neg (by omega)]
  · rw [List.getElem?_append_right (by omega), List.getElem?_append_right (by omega)]
    obtain ⟨j, rfl⟩ : ∃ j, k = P.length + j := ⟨k - P.length, by omega⟩
    rw [Nat.add_sub_cancel_left]
    have hj : j < 10 := by omega
    rw [show P.length + 10 - 9 = P.length + 1 by omega]
    by_cases h1 : j = 1
    · subst h1; rw [if_pos rfl]; rfl
    · rw [if_neg (by omega)]
      have : j = 0 ∨ j = 2 ∨ j = 3 ∨ j = 4 ∨ j = 5 ∨ j = 6 ∨ j = 7 ∨ j = 8 ∨ j = 9 := by omega
      rcases this with rfl | rfl | rfl | rfl | rfl | rfl | rfl | rfl | rfl <;> rfl
theorem take_succ_getD (l : List Bool) (k : Nat) (hk : k < l.length) : l.take (k + 1) = l.take k ++ [l.getD k true] := by
  rw [List.take_add_one, List.getElem?_eq_getElem hk, List.getD_eq_getElem?_getD, List.getElem?_eq_getElem hk]
  rfl
theorem ack_good {f : Fr} (h : isFr f = true) (k : Nat) (hk : k < (outB f).length) : Good ((ackB f).take k) := by
  have := dec_cut (x := f.1) (n := f.2.1) (r := f.2.2.1) (d := f.2.2.2) h k hk
  unfold Good
  show (dec ((ack0 f.1 f.2.1 f.2.2.1 f.2.2.2).take k)).2.2 = 10
  rw [this]
theorem good_zero : Good [false] := by
  unfold Good dec dB dB
  decide
theorem stuff_false (l : List Bool) : ∃ a, stuff (false :: l) = false :: a := by
  refine ⟨stB (1, false) [] l, ?_⟩
  show (if (Sm.step (0, false) false).1 = 5 then stB (1, !false) ([] ++ [false, !false]) l else stB (Sm.step (0, false) false) ([] ++ [false]) l) = _
  rw [if_neg (by decide), stB_out]
  rfl
theorem ok_fresh : Ok fresh := ⟨by decide, fun h => (by cases h), fun h => (by cases h), fun h => (by cases h), fun h => (by cases h), fun h => (by cases h), fun h => (by cases h), fun _ => (by decide)⟩
theorem ok_ask {m : St} (h : Ok m) (f : Fr) : Ok (ask m f).2 := by
  unfold ask
  split
  · exact h
  · next hp =>
    split
    · exact h
    · next hf =>
      split
      · exact h
      · next hb =>
        have hb' : m.has = false ∧ m.snd = false := by simpa [busy] using hb
        exact ⟨h.cnt, h.good, fun hs => (by rw [hb'.2] at hs; cases hs), fun _ => ⟨(by simpa using hf), hb'.2, hp⟩, h.lis, h.flag, h.reco, h.pause⟩
theorem isC_sent {s g : Int} (ok : Bool) (h : Km.isC s g = true) : Km.isC (Km.sentS s g ok) g = true := by
  obtain ⟨h1, h2, h3, h4⟩ := Km.isC_parts h
  unfold Km.sentS
  rw [if_pos h]
  have := Km.sentV_range ok h1 h2
  exact Km.isC_true this.1 this.2 h3 h4
theorem isC_got {s g : Int} (ok : Bool) (h : Km.isC s g = true) : Km.isC s (Km.gotG s g ok) = true := by
  obtain ⟨h1, h2, h3, h4⟩ := Km.isC_parts h
  unfold Km.gotG
  rw [if_pos h]
  have := Km.gotV_range ok h3 h4
  exact Km.isC_true h1 h2 this.1 this.2
/-- what an error leaves -/
theorem ok_bad {m : St} (e : Ev) (hc : Km.isC m.cs m.cg = true) (hh : m.has = true → isFr m.f = true) : Ok (bad m e).1 := by
  unfold bad
  split
  · exact ⟨hc, fun h => (by cases h), fun h => (by cases h), fun h => (by cases h), fun h => (by cases h), fun h => (by cases h), fun h => (by cases h), fun h => (by cases h)⟩
  · exact ⟨hc, fun h => (by cases h), fun h => (by cases h), fun h => ⟨hh h, rfl, (by intro k; cases k)⟩, fun h => (by cases h), fun _ => (by show 1 ≤ 6 ∧ 6 ≤ 6; decide), fun h => (by cases h), fun h => (by cases h)⟩
theorem ok_start {m : St} (h : Ok m) (sends : Bool) (hs : sends = true → m.has = true) : Ok (start m sends).1 := by
  refine ⟨h.cnt, fun _ => ⟨good_zero, (by intro k; cases k)⟩, fun hs' => ?_, fun hh => ?_, fun _ hs' => ?_, fun k => (by cases k), fun k => (by cases k), fun k => (by cases k)⟩
  · have hs'' : sends = true := hs'
    obtain ⟨hf, _, _⟩ := h.has (hs hs'')
    refine ⟨rfl, rfl, hf, ?_, ?_⟩
    · show [false] = (ackB m.f).take 1
      unfold ackB ack0
      obtain ⟨a, ha⟩ : ∃ a, stuff (plainOf (body0 m.f.1 m.f.2.1 m.f.2.2.1 m.f.2.2.2) (crc (body0 m.f.1 m.f.2.1 m.f.2.2.1 m.f.2.2.2))) = false :: a := by
        have hb : ∃ l, plainOf (body0 m.f.1 m.f.2.1 m.f.2.2.1 m.f.2.2.2) (crc (body0 m.f.1 m.f.2.1 m.f.2.2.1 m.f.2.2.2)) = false :: l := by
          unfold plainOf body0 arb0
          split
          · exact ⟨_, rfl⟩
          · exact ⟨_, rfl⟩
        obtain ⟨l, hl⟩ := hb
        rw [hl]
        exact stuff_false l
      rw [ha]
      rfl
    · have := (out_len hf).1
      show 1 < (outB m.f).length
      omega
  · have hh' : (if sends = true then false else m.has) = true := hh
    split at hh'
    · cases hh'
    · next hn =>
      obtain ⟨hf, _, _⟩ := h.has hh'
      exact ⟨hf, (by show sends = false; simpa using hn), (by intro k; cases k)⟩
  · show false = true ↔ (feed [false]).t = some 9
    decide
theorem ok_hearing {m : St} (h : Ok m) (hp : m.ph = .inFr) (hs : m.snd = false) (c : Bool) : Ok (hearing m c).1 := by
  unfold hearing
  split
  · exact ⟨h.cnt, fun k => (by cases k), fun k => (by have k' : m.snd = true := k; rw [hs] at k'; cases k'), fun k => ⟨(h.has k).1, hs, (by intro q; cases q)⟩, fun k => (by cases k), fun k => (by cases k), fun k => (by cases k), fun _ => (by show 1 ≤ 3 ∧ 3 ≤ 3; decide)⟩
  · next htk =>
    split
    · exact ok_bad _ (isC_got _ h.cnt) (fun k => (h.has k).1)
    · next hc =>
      have hc0 : code m.bits c = 0 := Classical.byContradiction hc
      have hg := (good_snoc (h.good hp).1 (c := c)).2 hc0
      split
      · next h9 =>
        exact ⟨isC_got _ h.cnt, fun _ => ⟨hg, (by simp)⟩, fun k => (by have k' : m.snd = true := k; rw [hs] at k'; cases k'), fun k => ⟨(h.has k).1, hs, (by show m.ph ≠ _; rw [hp]; intro q; cases q)⟩, fun _ _ => ⟨fun _ => h9, fun _ => rfl⟩,
          fun k => (by have k' : m.ph = _ := k; rw [hp] at k'; cases k'), fun k => (by have k' : m.ph = _ := k; rw [hp] at k'; cases k'), fun k => (by have k' : m.ph = _ := k; rw [hp] at k'; cases k')⟩
      · next h9 =>
        exact ⟨h.cnt, fun _ => ⟨hg, (by simp)⟩, fun k => (by have k' : m.snd = true := k; rw [hs] at k'; cases k'), fun k => ⟨(h.has k).1, hs, (by show m.ph ≠ _; rw [hp]; intro q; cases q)⟩, fun _ _ => ⟨fun k => absurd k htk, fun k => absurd k h9⟩,
          fun k => (by have k' : m.ph = _ := k; rw [hp] at k'; cases k'), fun k => (by have k' : m.ph = _ := k; rw [hp] at k'; cases k'), fun k => (by have k' : m.ph = _ := k; rw [hp] at k'; cases k')⟩
/-- a sender that goes on has read its own bit, acknowledged -/
theorem send_bit {m : St} (h : Ok m) (hs : m.snd = true) {c : Bool} (h1 : ¬ (m.bits.length + 1 = (outB m.f).length - 8 ∧ c = true)) (h2 : ¬ (m.bits.length + 1 ≠ (outB m.f).length - 8 ∧ (outB m.f).getD m.bits.length true ≠ c)) :
    m.bits ++ [c] = (ackB m.f).take (m.bits.length + 1) := by
  obtain ⟨_, _, hf, hb, hl⟩ := h.snd hs
  have hL := (out_len hf).1
  have hk : m.bits.length < (ackB m.f).length := by rw [ack_len]; exact hl
  rw [take_succ_getD _ _ hk, ← hb, ack_get _ _ hl]
  congr 2
  by_cases he : m.bits.length + 1 = (outB m.f).length - 8
  · rw [if_pos (by omega)]
    cases c
    · rfl
    · exact absurd ⟨he, rfl⟩ h1
  · rw [if_neg (by omega)]
    exact (Classical.byContradiction fun k => h2 ⟨he, fun q => k q.symm⟩ : c = _)
theorem plain_len (f : Fr) : (outB f).length = (stuff (body0 f.1 f.2.1 f.2.2.1 f.2.2.2 ++ ofB (crc (body0 f.1 f.2.1 f.2.2.1 f.2.2.2)) 15)).length + 10 := by
  show (stuff _ ++ ones 10).length = _
  rw [List.length_append, length_ones]
  rfl
theorem ack_in {f : Fr} (hf : isFr f = true) (k : Nat) (hk : k < (outB f).length - 10) : (feed ((ackB f).take k)).t = none := by
  rw [plain_len] at hk
  have hQ : (ofB (crc (body0 f.1 f.2.1 f.2.2.1 f.2.2.2)) 15).length = 15 := length_ofB _ _
  have h := feed_in hf _ hQ k (by omega)
  have e : (ackB f).take k = (stuff (body0 f.1 f.2.1 f.2.2.1 f.2.2.2 ++ ofB (crc (body0 f.1 f.2.1 f.2.2.1 f.2.2.2)) 15)).take k := by
    show (stuff _ ++ _).take k = _
    rw [List.take_append_of_le_length (by show k ≤ (stuff (body0 f.1 f.2.1 f.2.2.1 f.2.2.2 ++ ofB (crc (body0 f.1 f.2.1 f.2.2.1 f.2.2.2)) 15)).length; omega)]
    rfl
  rw [e]
  exact h
theorem stuff_front (a b : List Bool) : (stuff a).length ≤ (stuff (a ++ b)).length := by
  unfold stuff
  rw [stB_append]
  rw [List.length_append]
  omega
theorem arb_le (f : Fr) : arbL f ≤ (outB f).length - 10 := by
  rw [plain_len]
  unfold arbL body0
  rw [List.append_assoc]
  have := stuff_front (arb0 f.1 f.2.1 f.2.2.1) (((if f.1 = true then [false, false] else [false]) ++ (ofB f.2.2.2.length 4 ++ fromB f.2.2.2)) ++ ofB (crc (arb0 f.1 f.2.1 f.2.2.1 ++ ((if f.1 = true then [false, false] else [false]) ++ (ofB f.2.2.2.length 4 ++ fromB f.2.2.2)))) 15)
  omega
theorem ok_sending {m : St} (h : Ok m) (hs : m.snd = true) (c : Bool) : Ok (sending m c).1 := by
  obtain ⟨hp, htk, hf, hb, hl⟩ := h.snd hs
  have hh : m.has = false := by
    cases k : m.has
    · rfl
    · have := (h.has k).2.1
      rw [hs] at this
      cases this
  unfold sending
  split
  · next hlost =>
    have h' : Ok { m with snd := false } := by
      refine ⟨h.cnt, h.good, fun k => (by cases k), fun k => (by have k' : m.has = true := k; rw [hh] at k'; cases k'), fun _ _ => ?_, h.flag, h.reco, h.pause⟩
      show m.tk = true ↔ _
      rw [htk]
      refine ⟨fun k => (by cases k), fun k => ?_⟩
      have hn : (feed m.bits).t = none := by
        rw [hb]
        exact ack_in hf _ (Nat.lt_of_lt_of_le (Nat.lt_of_lt_of_le (Nat.lt_succ_self _) hlost.2.2) (arb_le m.f))
      have k' : (feed m.bits).t = some 9 := k
      rw [hn] at k'
      cases k'
    exact ok_hearing h' hp rfl c
  · split
    · exact ok_bad _ (isC_sent _ h.cnt) (fun k => (by have k' : m.has = true := k; rw [hh] at k'; cases k'))
    · next h1 =>
      split
      · exact ok_bad _ (isC_sent _ h.cnt) (fun k => (by have k' : m.has = true := k; rw [hh] at k'; cases k'))
      · next h2 =>
        have hx := send_bit h hs h1 h2
        split
        · exact ⟨isC_sent _ h.cnt, fun k => (by cases k), fun k => (by cases k), fun k => (by have k' : m.has = true := k; rw [hh] at k'; cases k'), fun k => (by cases k), fun k => (by cases k), fun k => (by cases k), fun _ => (by show 1 ≤ 3 ∧ 3 ≤ 3; decide)⟩
        · next h3 =>
          have hlt : m.bits.length + 1 < (outB m.f).length := by omega
          refine ⟨h.cnt, fun _ => ⟨?_, (by simp)⟩, fun _ => ⟨hp, htk, hf, ?_, ?_⟩, fun k => (by have k' : m.has = true := k; rw [hh] at k'; cases k'), fun _ k => (by have k' : m.snd = false := k; rw [hs] at k'; cases k'),
            fun k => (by have k' : m.ph = _ := k; rw [hp] at k'; cases k'), fun k => (by have k' : m.ph = _ := k; rw [hp] at k'; cases k'), fun k => (by have k' : m.ph = _ := k; rw [hp] at k'; cases k')⟩
          · show Good (m.bits ++ [c])
            rw [hx]
            exact ack_good hf _ hlt
          · show m.bits ++ [c] = (ackB m.f).take (m.bits ++ [c]).length
            rw [List.length_append, List.length_singleton]
            exact hx
          · show (m.bits ++ [c]).length < _
            rw [List.length_append, List.length_singleton]
            exact hlt
theorem ok_sample {m : St} (h : Ok m) (c : Bool) : Ok (sample m c).1 := by
  have hns : m.ph ≠ .inFr → m.snd = false := fun hp => by
    cases k : m.snd
    · rfl
    · exact absurd (h.snd k).1 hp
  unfold sample
  split
  · next hp =>
    split
    · exact h
    · exact ok_start h _ (fun k => k)
  · next hp =>
    split
    · next hs => exact ok_sending h hs c
    · next hs => exact ok_hearing h hp (by simpa using hs) c
  · next hp =>
    have hs := hns (by rw [hp]; intro k; cases k)
    have hl := h.flag hp
    split
    · exact ⟨h.cnt, fun k => (by cases k), fun k => (by have k' : m.snd = true := k; rw [hs] at k'; cases k'), fun k => ⟨(h.has k).1, hs, (by intro q; cases q)⟩, fun k => (by cases k), fun k => (by cases k), fun _ => (by show 1 ≤ 7 ∧ 7 ≤ 7; decide), fun k => (by cases k)⟩
    · exact ⟨h.cnt, fun k => (by have k' : m.ph = _ := k; rw [hp] at k'; cases k'), fun k => (by have k' : m.snd = true := k; rw [hs] at k'; cases k'), fun k => ⟨(h.has k).1, hs, (h.has k).2.2⟩, fun k => (by have k' : m.ph = _ := k; rw [hp] at k'; cases k'), fun _ => (by show 1 ≤ m.left - 1 ∧ m.left - 1 ≤ 6; omega), fun k => (by have k' : m.ph = _ := k; rw [hp] at k'; cases k'), fun k => (by have k' : m.ph = _ := k; rw [hp] at k'; cases k')⟩
  · next hp =>
    have hs := hns (by rw [hp]; intro k; cases k)
    have hl := h.reco hp
    show Ok (recover m c)
    unfold recover
    split
    · exact ⟨h.cnt, h.good, h.snd, h.has, h.lis, h.flag, h.reco, h.pause⟩
    · split
      · exact ⟨h.cnt, h.good, h.snd, h.has, h.lis, fun k => (by have k' : m.ph = _ := k; rw [hp] at k'; cases k'), fun _ => (by show 1 ≤ 7 ∧ 7 ≤ 7; decide), fun k => (by have k' : m.ph = _ := k; rw [hp] at k'; cases k')⟩
      · split
        · exact ⟨h.cnt, fun k => (by cases k), fun k => (by have k' : m.snd = true := k; rw [hs] at k'; cases k'), fun k => ⟨(h.has k).1, hs, (by intro q; cases q)⟩, fun k => (by cases k), fun k => (by cases k), fun k => (by cases k), fun _ => (by show 1 ≤ 3 ∧ 3 ≤ 3; decide)⟩
        · exact ⟨h.cnt, h.good, h.snd, h.has, h.lis, fun k => (by have k' : m.ph = _ := k; rw [hp] at k'; cases k'), fun _ => (by show 1 ≤ m.left - 1 ∧ m.left - 1 ≤ 7; omega), fun k => (by have k' : m.ph = _ := k; rw [hp] at k'; cases k')⟩
  · next hp =>
    have hs := hns (by rw [hp]; intro k; cases k)
    have hl := h.pause hp
    split
    · exact ok_start h _ (fun k => by cases k)
    · split
      · exact ⟨h.cnt, fun k => (by cases k), fun k => (by have k' : m.snd = true := k; rw [hs] at k'; cases k'), fun k => ⟨(h.has k).1, hs, (by intro q; cases q)⟩, fun k => (by cases k), fun k => (by cases k), fun k => (by cases k), fun k => (by cases k)⟩
      · exact ⟨h.cnt, h.good, h.snd, h.has, h.lis, fun k => (by have k' : m.ph = _ := k; rw [hp] at k'; cases k'), fun k => (by have k' : m.ph = _ := k; rw [hp] at k'; cases k'), fun _ => (by show 1 ≤ m.left - 1 ∧ m.left - 1 ≤ 3; omega)⟩
  · exact h
end Go.Proofs.YthkaekpoicodeaaGreatDoor.Mm
/- The document's node: listening to a frame that is acknowledged, sending one. -/
namespace Go.Proofs.YthkaekpoicodeaaGreatDoor.Mm
open Go.Proofs.YthkaekpoicodeaaGreatDoor.Bm Go.Proofs.YthkaekpoicodeaaGreatDoor.Fm Go.Proofs.YthkaekpoicodeaaGreatDoor.Sm Go.Proofs.YthkaekpoicodeaaGreatDoor.Cm
theorem ack_split (f : Fr) : ackB f = stuff (body0 f.1 f.2.1 f.2.2.1 f.2.2.2 ++ ofB (crc (body0 f.1 f.2.1 f.2.2.1 f.2.2.2)) 15) ++ (true :: false :: ones 8) := rfl
/-- what the reader holds behind i bits of a frame, from its sum's end on -/
theorem ack_tail {f : Fr} (hf : isFr f = true) (i : Nat) (h1 : (outB f).length - 10 ≤ i) (h2 : i ≤ (outB f).length) :
    ∃ q, feed ((ackB f).take i) = ⟨q, body0 f.1 f.2.1 f.2.2.1 f.2.2.2 ++ ofB (crc (body0 f.1 f.2.1 f.2.2.1 f.2.2.2)) 15, some (f, (body0 f.1 f.2.1 f.2.2.1 f.2.2.2).length), some (i - ((outB f).length - 10))⟩ := by
  have hp := plain_len f
  have hQ : (ofB (crc (body0 f.1 f.2.1 f.2.2.1 f.2.2.2)) 15).length = 15 := length_ofB _ _
  obtain ⟨q, hq⟩ := feed_tail hf _ hQ ((true :: false :: ones 8).take (i - ((outB f).length - 10)))
  refine ⟨q, ?_⟩
  have e : (ackB f).take i = stuff (body0 f.1 f.2.1 f.2.2.1 f.2.2.2 ++ ofB (crc (body0 f.1 f.2.1 f.2.2.1 f.2.2.2)) 15) ++ (true :: false :: ones 8).take (i - ((outB f).length - 10)) := by
    rw [ack_split, List.take_append, List.take_of_length_le (by omega)]
    congr 2
    omega
  rw [e, hq]
  have : ((true :: false :: ones 8).take (i - ((outB f).length - 10))).length = i - ((outB f).length - 10) := by
    rw [List.length_take]
    show min _ (1 + 1 + (ones 8).length - 0) = _
    have : (true :: false :: ones 8).length = 10 := by simp [ones]
    have h3 : 10 ≤ (outB f).length := by omega
    show min _ (true :: false :: ones 8).length = _
    omega
  rw [this]
theorem right_own (f : Fr) : right (body0 f.1 f.2.1 f.2.2.1 f.2.2.2 ++ ofB (crc (body0 f.1 f.2.1 f.2.2.1 f.2.2.2)) 15) (body0 f.1 f.2.1 f.2.2.1 f.2.2.2).length = true := by
  rw [right_plain _ _ (crc_lt _)]
  simp
/-- the frame that was read -/
theorem ack_t {f : Fr} (hf : isFr f = true) (i : Nat) (h2 : i ≤ (outB f).length) : (feed ((ackB f).take i)).t = if i < (outB f).length - 10 then none else some (i - ((outB f).length - 10)) := by
  by_cases h : i < (outB f).length - 10
  · rw [if_pos h, ack_in hf i h]
  · rw [if_neg h]
    obtain ⟨q, hq⟩ := ack_tail hf i (by omega) h2
    rw [hq]
theorem take_len (f : Fr) (i : Nat) (h : i ≤ (outB f).length) : ((ackB f).take i).length = i := by
  rw [List.length_take, ack_len]; omega
theorem ack_code {f : Fr} (hf : isFr f = true) (i : Nat) (hi : i + 1 < (outB f).length) : code ((ackB f).take i) ((ackB f).getD i true) = 0 := by
  have hg := ack_good hf (i + 1) hi
  rw [take_succ_getD _ _ (by rw [ack_len]; omega)] at hg
  exact (good_snoc (ack_good hf i (by omega))).1 hg
/-- a listener's bit -/
theorem lis_bit {f : Fr} (hf : isFr f = true) {m : St} (hp : m.ph = .inFr) (hs : m.snd = false) (ht : m.tk = false) {i : Nat} (hb : m.bits = (ackB f).take i) (hi : i + 1 < (outB f).length) :
    sample m ((ackB f).getD i true) = if i + 2 = (outB f).length then ({ m with bits := (ackB f).take (i + 1), tk := true, cg := Km.gotG m.cs m.cg true }, [⟨2, f, 0⟩]) else ({ m with bits := (ackB f).take (i + 1) }, []) := by
  obtain ⟨ph, lf, fi, sd, hh, tk, ff, bs, cs, cg⟩ := m
  dsimp only at *
  subst hp hs ht hb
  have hL := (out_len hf).1
  have hc := ack_code hf i hi
  have hn : (ackB f).take i ++ [(ackB f).getD i true] = (ackB f).take (i + 1) := by rw [take_succ_getD _ _ (by rw [ack_len]; omega)]
  unfold sample
  dsimp only
  rw [if_neg (by decide)]
  unfold hearing
  dsimp only
  rw [if_neg (by decide), hc, if_neg (by simp), hn, ack_t hf _ (by omega)]
  by_cases h9 : i + 2 = (outB f).length
  · rw [if_neg (show ¬ i + 1 < (outB f).length - 10 by omega), if_pos (show some (i + 1 - ((outB f).length - 10)) = some 9 by congr 1; omega), if_pos h9]
    obtain ⟨q, hq⟩ := ack_tail hf (i + 1) (by omega) (by omega)
    rw [hq]
    rfl
  · have hx : ¬ (if i + 1 < (outB f).length - 10 then none else some (i + 1 - ((outB f).length - 10))) = some 9 := by
      split
      · intro k; cases k
      · intro k
        injection k with k
        omega
    rw [if_neg h9, if_neg hx]
theorem lis_end {m : St} (hp : m.ph = .inFr) (hs : m.snd = false) (ht : m.tk = true) (c : Bool) : sample m c = ({ m with ph := .pause, left := 3 }, []) := by
  obtain ⟨ph, lf, fi, sd, hh, tk, ff, bs, cs, cg⟩ := m
  dsimp only at *
  subst hp hs ht
  rfl
theorem lis_drive {f : Fr} (hf : isFr f = true) {m : St} (hp : m.ph = .inFr) (hs : m.snd = false) {i : Nat} (hb : m.bits = (ackB f).take i) (hi : i < (outB f).length) : drive m = !decide (i = (outB f).length - 9) := by
  obtain ⟨ph, lf, fi, sd, hh, tk, ff, bs, cs, cg⟩ := m
  dsimp only at *
  subst hp hs hb
  have hL := (out_len hf).1
  unfold drive
  dsimp only
  rw [if_neg (by decide)]
  congr 1
  by_cases h : i < (outB f).length - 10
  · rw [ack_in hf i h]
    simp
    omega
  · obtain ⟨q, hq⟩ := ack_tail hf i (by omega) (by omega)
    rw [hq]
    dsimp only
    rw [right_own]
    by_cases h9 : i = (outB f).length - 9
    · rw [decide_eq_true h9, decide_eq_true (by congr 1; omega)]
      rfl
    · rw [decide_eq_false h9, decide_eq_false]
      · rfl
      · intro k
        injection k with k
        omega
/-- a sender's bit -/
theorem snd_drive {f : Fr} {m : St} (hp : m.ph = .inFr) (hs : m.snd = true) (hf : m.f = f) {i : Nat} (hb : m.bits = (ackB f).take i) (hi : i < (outB f).length) : drive m = (outB f).getD i true := by
  obtain ⟨ph, lf, fi, sd, hh, tk, ff, bs, cs, cg⟩ := m
  dsimp only at *
  subst hp hs hf hb
  unfold drive
  dsimp only
  rw [if_pos rfl, take_len _ _ (Nat.le_of_lt hi)]
theorem snd_bit {f : Fr} (hF : isFr f = true) {m : St} (hp : m.ph = .inFr) (hs : m.snd = true) (hf : m.f = f) {i : Nat} (hb : m.bits = (ackB f).take i) (hi : i < (outB f).length) :
    sample m ((ackB f).getD i true) = if i + 1 = (outB f).length then ({ m with bits := (ackB f).take (i + 1), cs := Km.sentS m.cs m.cg true, snd := false, ph := .pause, left := 3 }, [⟨1, f, 0⟩]) else ({ m with bits := (ackB f).take (i + 1) }, []) := by
  obtain ⟨ph, lf, fi, sd, hh, tk, ff, bs, cs, cg⟩ := m
  dsimp only at *
  subst hp hs hf hb
  have hL := (out_len hF).1
  have hA := arb_le ff
  have hg := ack_get ff i hi
  have hn : (ackB ff).take i ++ [(ackB ff).getD i true] = (ackB ff).take (i + 1) := by rw [take_succ_getD _ _ (by rw [ack_len]; omega)]
  have hl : ((ackB ff).take i).length = i := take_len _ _ (Nat.le_of_lt hi)
  show sending _ _ = _
  unfold sending
  dsimp only
  rw [hn, hl]
  by_cases h9 : i = (outB ff).length - 9
  · rw [if_pos h9] at hg
    rw [hg, if_neg (by omega), if_neg (by simp), if_neg (by omega)]
  · rw [if_neg h9] at hg
    rw [hg, if_neg (by intro k; rw [k.1] at k; cases k.2.1), if_neg (by omega), if_neg (by intro k; exact k.2 rfl)]
theorem ack_zero {f : Fr} (hF : isFr f = true) : (ackB f).take 1 = [false] := by
  have h := ok_start (m := { fresh with ph := .idle, has := true, f := f }) ⟨(show Km.isC 0 0 = true by decide), fun h => (by cases h), fun h => (by cases h), fun _ => ⟨hF, rfl, (by intro k; cases k)⟩, fun h => (by cases h), fun h => (by cases h), fun h => (by cases h), fun h => (by cases h)⟩ true (fun _ => rfl)
  exact (h.snd rfl).2.2.2.1.symm
end Go.Proofs.YthkaekpoicodeaaGreatDoor.Mm
/- Plain mathematics of the landed node: what is left of a frame that is heard, by a reading that goes on with ones; nothing of the program is in it. -/
namespace Go.Proofs.YthkaekpoicodeaaGreatDoor.Mm
open Go.Proofs.YthkaekpoicodeaaGreatDoor.Bm Go.Proofs.YthkaekpoicodeaaGreatDoor.Fm Go.Proofs.YthkaekpoicodeaaGreatDoor.Sm Go.Proofs.YthkaekpoicodeaaGreatDoor.Cm
def rightS (s : Rd) : Bool := match s.w with | some (_, n) => right s.p n | none => false
/-- how many bits are left of a frame whose sum is right -/
def loS (s : Rd) : Nat := match s.t with | none => 0 | some k => if k = 0 then 0 else if 3 ≤ k ∨ rightS s = true then 10 - k else 0
def lo (a : List Bool) : Nat := loS (feed a)
/-- a whole frame wants its last ten bits -/
theorem dB_whole (l : List Bool) : ∀ (s : Rd) (i : Nat), (dB s i l).2.2 = 0 → ∃ t, s.t = some t ∧ t < 10 ∧ 10 ≤ t + l.length ∨ s.t = none ∧ 11 ≤ l.length := by
  induction l with
  | nil => intro s i h; cases h
  | cons c l ih =>
    intro s i h
    have e : dB s i (c :: l) = if (bit s c).1 = 0 then dB (bit s c).2 (i + 1) l else if (bit s c).1 = 1 then ((bit s c).2.frame, i + 1, 0) else (noF, i, (bit s c).1) := rfl
    rw [e] at h
    rcases hs : s.t with _ | t
    · refine ⟨0, Or.inr ⟨rfl, ?_⟩⟩
      have hb : bit s c = within s c := by unfold bit; rw [hs]
      have hw : (within s c).1 ≠ 1 ∧ ((within s c).2.t = none ∨ (within s c).2.t = some 0) := by
        unfold within
        repeat' split
        all_goals simp_all
      rw [hb] at h
      by_cases h0 : (within s c).1 = 0
      · rw [if_pos h0] at h
        obtain ⟨t, ⟨h1, h2, h3⟩ | ⟨h1, h2⟩⟩ := ih _ _ h
        · rcases hw.2 with k | k
          · rw [k] at h1; cases h1
          · rw [k] at h1; injection h1 with h1; subst h1; simp only [List.length_cons]; omega
        · simp only [List.length_cons]; omega
      · rw [if_neg h0, if_neg hw.1] at h
        exact absurd h h0
    · refine ⟨t, Or.inl ⟨rfl, ?_⟩⟩
      have hb : bit s c = behind s t c := by unfold bit; rw [hs]
      rw [hb] at h
      have hw : (behind s t c).2.t = some (t + 1) ∧ ((behind s t c).1 = 1 → t + 1 = 10) := by
        unfold behind
        repeat' split
        all_goals simp_all
      by_cases h0 : (behind s t c).1 = 0
      · rw [if_pos h0] at h
        obtain ⟨t', ⟨h1, h2, h3⟩ | ⟨h1, h2⟩⟩ := ih _ _ h
        · rw [hw.1] at h1; injection h1 with h1; subst h1; simp only [List.length_cons]; omega
        · rw [hw.1] at h1; cases h1
      · rw [if_neg h0] at h
        by_cases h1 : (behind s t c).1 = 1
        · have := hw.2 h1; simp only [List.length_cons]; omega
        · rw [if_neg h1] at h; exact absurd h h0
theorem behind_one (s : Rd) (t : Nat) (ht : s.t = some t) (h3 : 3 ≤ t ∨ rightS s = true) (h9 : t < 9) : bit s true = (0, { s with t := some (t + 1) }) := by
  unfold bit
  rw [ht]
  show behind s t true = _
  unfold behind
  rw [if_neg (by simp), if_neg (by
    rintro ⟨h1, h2⟩
    rcases h3 with h3 | h3
    · omega
    · have h4 : rightS s = false := h2
      rw [h3] at h4; cases h4), if_neg (by omega)]
theorem behind_last (s : Rd) (ht : s.t = some 9) : bit s true = (1, { s with t := some 10 }) := by
  unfold bit
  rw [ht]
  rfl
/-- ones to the end -/
theorem ones_end (m : Nat) : ∀ (s : Rd) (t i : Nat) (l : List Bool), s.t = some t → (3 ≤ t ∨ rightS s = true) → t + m = 10 → 0 < m → dB s i (ones m ++ l) = (s.frame, i + m, 0) := by
  induction m with
  | zero => intro s t i l _ _ _ h; omega
  | succ m ih =>
    intro s t i l ht h3 hm _
    have e : ones (m + 1) ++ l = true :: (ones m ++ l) := by unfold ones; rw [List.replicate_succ]; rfl
    rw [e]
    by_cases h9 : t = 9
    · subst h9
      obtain rfl : m = 0 := by omega
      rw [dB_end (behind_last s ht)]
      rfl
    · rw [dB_go (behind_one s t ht h3 (by omega)), ih { s with t := some (t + 1) } (t + 1) (i + 1) l rfl (h3.imp (fun h => by omega) id) (by omega) (by omega)]
      show (s.frame, _, _) = _
      rw [show i + 1 + m = i + (m + 1) by omega]
theorem ones_add (a b : Nat) : ones (a + b) = ones a ++ ones b := by unfold ones; simp
theorem read_on (s : Rd) (i : Nat) (h : loS s ≠ 0) : dB s i (ones 9) = (s.frame, i + loS s, 0) := by
  unfold loS at h ⊢
  rcases ht : s.t with _ | k
  · rw [ht] at h; exact absurd rfl h
  · rw [ht] at h
    dsimp only at h ⊢
    by_cases k0 : k = 0
    · rw [if_pos k0] at h; exact absurd rfl h
    · rw [if_neg k0] at h ⊢
      by_cases h3 : 3 ≤ k ∨ rightS s = true
      · rw [if_pos h3] at h ⊢
        rw [show (9 : Nat) = (10 - k) + (k - 1) by omega, ones_add]
        exact ones_end (10 - k) s k i _ ht h3 (by omega) (by omega)
      · rw [if_neg h3] at h; exact absurd rfl h
theorem read_not (s : Rd) (i : Nat) (h : loS s = 0) : (dB s i (ones 9)).2.2 ≠ 0 := by
  intro hz
  obtain ⟨t, ⟨h1, h2, h3⟩ | ⟨h1, h2⟩⟩ := dB_whole _ _ _ hz
  · rw [length_ones] at h3
    unfold loS at h
    rw [h1] at h
    dsimp only at h
    rw [if_neg (by omega)] at h
    by_cases hr : 3 ≤ t ∨ rightS s = true
    · rw [if_pos hr] at h; omega
    · have ht : t = 1 ∨ t = 2 := by omega
      have hr' : rightS s = false := by cases hq : rightS s; rfl; exact absurd (Or.inr hq) hr
      have hb2 : ∀ s : Rd, s.t = some 2 → rightS s = false → ∀ i l, (dB s i (true :: l)).2.2 = 40 := fun s h2 hr i l => by
        have : bit s true = (40, { s with t := some 3 }) := by
          unfold bit
          rw [h2]
          show behind s 2 true = _
          unfold behind
          rw [if_neg (by simp), if_pos ⟨rfl, hr⟩]
        rw [dB_err this (by decide) (by decide)]
      have e : ones 9 = true :: (true :: ones 7) := rfl
      rw [e] at hz
      rcases ht with rfl | rfl
      · have : bit s true = (0, { s with t := some 2 }) := by
          unfold bit
          rw [h1]
          show behind s 1 true = _
          unfold behind
          rw [if_neg (by simp), if_neg (by simp), if_neg (by decide)]
        have e7 : true :: ones 7 = true :: ones 7 := rfl
        rw [dB_go this, hb2 { s with t := some 2 } rfl hr'] at hz
        cases hz
      · rw [hb2 s h1 hr'] at hz; cases hz
  · rw [length_ones] at h2; omega
theorem good_place {a : List Bool} (h : Good a) (l : List Bool) : a.length ≤ (dec (a ++ l)).2.1 := by
  rw [good_dec h]; exact (dB_place l _ _).1
theorem dec_on {a : List Bool} (h : Good a) (hl : lo a ≠ 0) : dec (a ++ ones 9) = ((feed a).frame, a.length + lo a, 0) := by
  rw [good_dec h]; exact read_on _ _ hl
theorem dec_not {a : List Bool} (h : Good a) (hl : lo a = 0) : (dec (a ++ ones 9)).2.2 ≠ 0 ∧ a.length ≤ (dec (a ++ ones 9)).2.1 := by
  refine ⟨?_, good_place h _⟩
  rw [good_dec h]; exact read_not _ _ hl
theorem dec_met {a : List Bool} (h : Good a) {c : Bool} (h0 : code a c ≠ 0) (h1 : code a c ≠ 1) (l : List Bool) : dec ((a ++ [c]) ++ l) = (noF, a.length, code a c) := by
  rw [List.append_assoc, good_dec h]
  show (if code a c = 0 then _ else if code a c = 1 then _ else _) = _
  rw [if_neg h0, if_neg h1]
  rfl
theorem lo_nine (a : List Bool) : lo a = 9 ↔ (feed a).t = some 1 ∧ rightS (feed a) = true := by
  unfold lo loS
  rcases (feed a).t with _ | k
  · simp
  · dsimp only
    by_cases k0 : k = 0
    · rw [if_pos k0]; simp; omega
    · rw [if_neg k0]
      by_cases h3 : 3 ≤ k ∨ rightS (feed a) = true
      · rw [if_pos h3]
        constructor
        · intro h
          have : k = 1 := by omega
          subst this
          refine ⟨rfl, h3.resolve_left (by decide)⟩
        · rintro ⟨h1, _⟩
          injection h1 with h1
          omega
      · rw [if_neg h3]
        constructor
        · intro h; cases h
        · rintro ⟨_, h2⟩; exact absurd (Or.inr h2) h3
theorem lo_one (a : List Bool) : lo a = 1 ↔ (feed a).t = some 9 := by
  unfold lo loS
  rcases (feed a).t with _ | k
  · simp
  · dsimp only
    by_cases k0 : k = 0
    · rw [if_pos k0]; simp; omega
    · rw [if_neg k0]
      by_cases h3 : 3 ≤ k ∨ rightS (feed a) = true
      · rw [if_pos h3]; constructor
        · intro h; have : k = 9 := by omega
          rw [this]
        · intro h; injection h with h; omega
      · rw [if_neg h3]; constructor
        · intro h; cases h
        · intro h; injection h with h; omega
theorem lo_le (a : List Bool) : lo a ≤ 9 := by
  unfold lo loS
  split
  · decide
  · repeat' split
    all_goals omega
/-- what is known to be left stays known -/
theorem lo_keep {a : List Bool} {c : Bool} (h0 : code a c = 0) (h : lo (a ++ [c]) = 0) : lo a = 0 := by
  unfold lo at *
  rw [feed_snoc] at h
  unfold code at h0
  rcases ht : (feed a).t with _ | k
  · unfold loS; rw [ht]
  · have hb : bit (feed a) c = behind (feed a) k c := by unfold bit; rw [ht]
    rw [hb] at h h0
    have hw : (behind (feed a) k c).2 = { feed a with t := some (k + 1) } := by
      unfold behind
      repeat' split
      all_goals rfl
    have hk : k + 1 ≠ 10 := by
      intro hk
      unfold behind at h0
      rw [if_neg (show ¬ (k + 1 = 3 ∧ _) by rintro ⟨h, _⟩; omega), if_pos hk] at h0
      split at h0 <;> cases h0
    rw [hw] at h
    have hr : rightS { feed a with t := some (k + 1) } = rightS (feed a) := rfl
    unfold loS at h ⊢
    rw [ht]
    dsimp only at h ⊢
    rw [if_neg (by omega), hr] at h
    by_cases k0 : k = 0
    · rw [if_pos k0]
    · rw [if_neg k0]
      by_cases h3 : 3 ≤ k + 1 ∨ rightS (feed a) = true
      · rw [if_pos h3] at h
        split <;> omega
      · rw [if_neg (fun q => h3 (q.imp (fun q => by omega) id))]
theorem lo_none {a : List Bool} (h : (feed a).t = none) : lo a = 0 := by unfold lo loS; rw [h]
theorem lo_start : lo [false] = 0 := by
  apply lo_none
  decide
/-- a bit that ends the frame is the last of its ten -/
theorem code_one {a : List Bool} {c : Bool} (h : code a c = 1) : (feed a).t = some 9 := by
  unfold code bit at h
  rcases ht : (feed a).t with _ | k
  · rw [ht] at h
    dsimp only at h
    unfold within at h
    (repeat' split at h) <;> cases h
  · rw [ht] at h
    dsimp only at h
    unfold behind at h
    repeat' split at h
    all_goals first
      | (dsimp only at h; omega)
      | (have hk : k = 9 := by omega
         subst hk
         rfl)
end Go.Proofs.YthkaekpoicodeaaGreatDoor.Mm
