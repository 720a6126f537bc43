/- Package mac, over the landed code: the node in its plain state; hearing and sending by it. -/
import Derived.Test.YthkaekpoicodeaaGreatDoorUj
import Derived.Test.YthkaekpoicodeaaGreatDoorZ4
namespace Go.Proofs.YthkaekpoicodeaaGreatDoor
open Go.RowKit
set_option linter.unusedVariables false
theorem Mm.dB_err_le (l : List Bool) : ∀ (s : Cm.Rd) (i : Nat), (Cm.dB s i l).2.2 ≤ 1000 := by
  induction l with
  | nil => intro s i; show 10 ≤ 1000; decide
  | cons c l ih =>
    intro s i
    have e : Cm.dB s i (c :: l) = if (Cm.bit s c).1 = 0 then Cm.dB (Cm.bit s c).2 (i + 1) l else if (Cm.bit s c).1 = 1 then ((Cm.bit s c).2.frame, i + 1, 0) else (Cm.noF, i, (Cm.bit s c).1) := rfl
    rw [e]
    split
    · exact ih _ _
    · split
      · exact Nat.zero_le _
      · rcases Cm.bit_code s c with k | k | k | k | k <;> dsimp only <;> omega
theorem Mm.dec_err (l : List Bool) : (Cm.dec l).2.2 ≤ 1000 := Mm.dB_err_le l _ _
abbrev txt (l : List Bool) : ByteArray := ⟨(Bm.row l).toArray⟩
theorem txt_snoc (l : List Bool) (c : Bool) : txt l ++ ⟨#[if c then 49 else 48]⟩ = txt (l ++ [c]) := by
  have h := cat_row l [c]
  have e : ByteArray.mk (Bm.row [c]).toArray = ⟨#[if c then 49 else 48]⟩ := by cases c <;> rfl
  rw [e] at h
  exact h
theorem txt_nine (l : List Bool) : txt l ++ ⟨#[49, 49, 49, 49, 49, 49, 49, 49, 49]⟩ = txt (l ++ Cm.ones 9) := by
  have h := cat_row l (Cm.ones 9)
  have e : ByteArray.mk (Bm.row (Cm.ones 9)).toArray = ⟨#[49, 49, 49, 49, 49, 49, 49, 49, 49]⟩ := by rfl
  rw [e] at h
  exact h
theorem txt_size (l : List Bool) : (txt l).size = l.length := row_size l
/-- What Decode answers of a row, with nine ones behind it. -/
theorem dec_nine (l : List Bool) (hl : l.length ≤ 1000) (w : World) (hT : Tab w) (F : Cm.Fr) (lg er : Nat) (hd : Cm.dec (l ++ Cm.ones 9) = (F, lg, er)) :
    Calls Tryz.prog 91 #[.string (txt l ++ ⟨#[49, 49, 49, 49, 49, 49, 49, 49, 49]⟩)] w fun e w' => e = .returned (.tuple #[.agg #[.bool F.1, .int .u32 (F.2.1 : Int), .bool F.2.2.1, .string ⟨F.2.2.2.toArray⟩], .int .i64 (lg : Int), .int .i64 (er : Int)]) ∧ Below w.heap.size w w' := by
  rw [txt_nine]
  have h := cDec_any (txt (l ++ Cm.ones 9)) w hT (by rw [txt_size, List.length_append, Cm.length_ones]; omega)
  rw [row_data, hd] at h
  exact h
theorem Told.cs {w : World} {p : Nat} {evs evs' : List Mm.Ev} {cs cs' : Array Value} {e : Ending} {w' : World} (h : Told w p evs cs e w') (h1 : evs = evs') (h2 : cs = cs') : Told w p evs' cs' e w' := by subst h1 h2; exact h
/-- What hearing a bit leaves and tells. -/
def hearC (bits : List Bool) (c : Bool) (x : Bool) (n : Int) (r : Bool) (d wire : ByteArray) (s g : Int) : Array Value :=
  if Mm.lo bits = 1 then lcs 5 3 ⟨#[]⟩ x n r d wire s g
  else if Mm.code bits c ≠ 0 then lcs (fkl s).1 (fkl s).2 ⟨#[]⟩ x n r d wire s (Km.gotG s g false)
  else if Mm.lo (bits ++ [c]) = 1 then lcs 2 1 (txt (bits ++ [c])) x n r d wire s (Km.gotG s g true)
  else lcs 2 (Mm.lo (bits ++ [c]) : Nat) (txt (bits ++ [c])) x n r d wire s g
def hearE (bits : List Bool) (c : Bool) (s : Int) : List Mm.Ev :=
  if Mm.lo bits = 1 then []
  else if Mm.code bits c ≠ 0 then fev s ⟨5, Cm.noF, Mm.code bits c⟩
  else if Mm.lo (bits ++ [c]) = 1 then [⟨2, (Mm.feed (bits ++ [c])).frame, 0⟩]
  else []
theorem hearE_short (bits : List Bool) (c : Bool) (s : Int) : (hearE bits c s).length ≤ 2 := by
  unfold hearE fev
  repeat' split
  all_goals simp
set_option maxHeartbeats 1000000 in
theorem lhear_st (w : World) (p : Nat) (bits : List Bool) (c : Bool) (x : Bool) (n : Int) (r : Bool) (d wire : ByteArray) (s g : Int) (hG : Mm.Good bits) (hT : Tab w) (hc : Km.isC s g = true) (h : LRow w p (lcs 2 (Mm.lo bits : Nat) (txt bits) x n r d wire s g)) :
    Calls Tryz.prog 61 #[bptr p, .string ⟨#[if c then 49 else 48]⟩] w fun e w' => Told w p (hearE bits c s) (hearC bits c x n r d wire s g) e w' := by
  unfold hearE hearC
  have hlen := Mm.good_len hG
  by_cases h1 : Mm.lo bits = 1
  · rw [if_pos h1, if_pos h1]
    rw [h1] at h
    exact lhear_end w p (txt bits) x n r d wire s g _ h
  · rw [if_neg h1, if_neg h1]
    have hl1 : (((Mm.lo bits : Nat) : Int) == 1) = false := by simp; omega
    have hn1 : Mm.code bits c ≠ 1 := fun k => h1 ((Mm.lo_one bits).2 (Mm.code_one k))
    have hsz : (txt bits).size ≤ 1000 := by rw [txt_size]; omega
    have hl2 : (bits ++ [c]).length ≤ 1000 := by simp; omega
    have hDe : ∀ F lg er, Cm.dec ((bits ++ [c]) ++ Cm.ones 9) = (F, lg, er) → ∀ w, Tab w → Calls Tryz.prog 91 #[.string (txt bits ++ ⟨#[if c then 49 else 48]⟩ ++ ⟨#[49, 49, 49, 49, 49, 49, 49, 49, 49]⟩)] w fun e w' => e = .returned (.tuple #[.agg #[.bool F.1, .int .u32 (F.2.1 : Int), .bool F.2.2.1, .string ⟨F.2.2.2.toArray⟩], .int .i64 (lg : Int), .int .i64 (er : Int)]) ∧ Below w.heap.size w w' := fun F lg er hd w hT => by
      rw [txt_snoc]
      exact dec_nine _ hl2 w hT F lg er hd
    by_cases h0 : Mm.code bits c = 0
    · have hG2 := (Mm.good_snoc hG (c := c)).2 h0
      rw [if_neg (not_not_intro h0), if_neg (not_not_intro h0)]
      by_cases hz : Mm.lo (bits ++ [c]) = 0
      · have hz1 : ¬ Mm.lo (bits ++ [c]) = 1 := by omega
        rw [if_neg hz1, if_neg hz1]
        obtain ⟨h2, h3⟩ := Mm.dec_not hG2 hz
        have hpl : (Cm.dec ((bits ++ [c]) ++ Cm.ones 9)).2.1 ≤ 0 + ((bits ++ [c]) ++ Cm.ones 9).length := (Cm.dB_place ((bits ++ [c]) ++ Cm.ones 9) Cm.Rd.new 0).2.1
        have her := Mm.dec_err ((bits ++ [c]) ++ Cm.ones 9)
        generalize hd : Cm.dec ((bits ++ [c]) ++ Cm.ones 9) = q at h2 h3 hpl her
        obtain ⟨F, lg, er⟩ := q
        dsimp only at h2 h3 hpl her
        simp only [List.length_append, List.length_cons, List.length_nil, Cm.length_ones] at hpl h3
        have hk := lhear_wait w p (Mm.lo bits : Nat) (txt bits) x n r d wire s g (if c then 49 else 48) F.1 F.2.1 F.2.2.1 ⟨F.2.2.2.toArray⟩ lg er hl1 hsz (by omega) her hT (by simpa using h2) (by rw [txt_size]; omega) (hDe F lg er hd) h
        refine hk.mono fun e w' hR => hR.cs rfl ?_
        rw [txt_snoc, hz, Mm.lo_keep h0 hz]
      · have hd := Mm.dec_on hG2 hz
        have hle := Mm.lo_le (bits ++ [c])
        have hL : (bits ++ [c]).length = bits.length + 1 := by simp
        rw [hL] at hd
        by_cases h9 : Mm.lo (bits ++ [c]) = 1
        · rw [if_pos h9, if_pos h9]
          have hk := lhear_got w p (Mm.lo bits : Nat) (txt bits) x n r d wire s g (if c then 49 else 48) _ _ _ _ (bits.length + 1 + Mm.lo (bits ++ [c])) 0 hl1 hsz (by omega) (by decide) hT rfl (by rw [txt_size, h9]) hc (hDe _ _ _ hd) h
          exact hk.mono fun e w' hR => hR.cs rfl (by rw [txt_snoc])
        · rw [if_neg h9, if_neg h9]
          have hk := lhear_on w p (Mm.lo bits : Nat) (txt bits) x n r d wire s g (if c then 49 else 48) _ _ _ _ (bits.length + 1 + Mm.lo (bits ++ [c])) 0 hl1 hsz (by omega) (by decide) hT rfl (by rw [txt_size]; omega) (by rw [txt_size]; omega) (hDe _ _ _ hd) h
          refine hk.mono fun e w' hR => hR.cs rfl ?_
          rw [txt_snoc, txt_size, show ((bits.length + 1 + Mm.lo (bits ++ [c]) : Nat) : Int) - ((bits.length : Int) + 1) = (Mm.lo (bits ++ [c]) : Nat) by omega]
    · rw [if_pos h0, if_pos h0]
      have hd := Mm.dec_met hG h0 hn1 (Cm.ones 9)
      have hcode : Mm.code bits c ≤ 1000 := by rcases Mm.code_cases bits c with k | k | k | k | k <;> rw [k] <;> decide
      exact lhear_bad w p (Mm.lo bits : Nat) (txt bits) x n r d wire s g (if c then 49 else 48) _ _ _ _ bits.length (Mm.code bits c) hl1 hsz (by omega) hcode hT (by simpa using h0) (by rw [txt_size]; omega) hc (hDe _ _ _ hd) h
end Go.Proofs.YthkaekpoicodeaaGreatDoor
/- Package mac, over the landed code: the node in its plain state: Sample. -/
namespace Go.Proofs.YthkaekpoicodeaaGreatDoor
open Go.RowKit
set_option linter.unusedVariables false
def kI (m : Mm.St) : Int := match m.ph with | .idle => 0 | .inFr => if m.snd then 1 else 2 | .flag => 3 | .reco => 4 | .pause => 5 | .off => 6
def lI (m : Mm.St) : Int := match m.ph with | .idle => 0 | .inFr => if m.snd then ((Mm.outB m.f).length : Int) - (m.bits.length : Int) else ((Mm.lo m.bits : Nat) : Int) | .flag => (m.left : Int) | .reco => if m.first then 8 else (m.left : Int) | .pause => (m.left : Int) | .off => 0
def rowT (m : Mm.St) : ByteArray := if m.ph = .inFr then txt m.bits else ⟨#[]⟩
def ownF (m : Mm.St) : Cm.Fr := if Mm.busy m then m.f else Cm.noF
def wireT (m : Mm.St) : ByteArray := if Mm.busy m then txt (Mm.outB m.f) else ⟨#[]⟩
def mlc (m : Mm.St) : Array Value := lcs (kI m) (lI m) (rowT m) (ownF m).1 ((ownF m).2.1 : Int) (ownF m).2.2.1 ⟨(ownF m).2.2.2.toArray⟩ (wireT m) m.cs m.cg
/-- What holds of the landed node's state besides. -/
structure Fit (m : Mm.St) : Prop where
  off : m.ph ≠ .off → Km.offC m.cs = false
  reco : m.ph = .reco → m.first = true → m.left = 7
  idle : m.ph = .idle → m.left = 0
theorem wire_some {m : Mm.St} (hO : Mm.Ok m) (hb : Mm.busy m = true) : 0 < (wireT m).size ∧ (wireT m).size ≤ 1000 := by
  have hf : Mm.isFr m.f = true := by
    unfold Mm.busy at hb
    have hb' : m.has = true ∨ m.snd = true := by simpa using hb
    rcases hb' with h | h
    · exact (hO.has h).1
    · exact (hO.snd h).2.2.1
  have := Mm.out_len hf
  unfold wireT
  rw [if_pos hb, txt_size]
  omega
theorem wire_none {m : Mm.St} (hb : Mm.busy m = false) : wireT m = ⟨#[]⟩ := by unfold wireT; rw [if_neg (by rw [hb]; decide)]
theorem own_none {m : Mm.St} (hb : Mm.busy m = false) : ownF m = Cm.noF := by unfold ownF; rw [if_neg (by rw [hb]; decide)]
theorem fit_fresh : Fit Mm.fresh := ⟨fun _ => (by decide), fun h => (by cases h), fun h => (by cases h)⟩
theorem offC_good {s g : Int} (h : Km.offC s = false) : Km.offC (Km.sentS s g true) = false := by
  unfold Km.offC at *
  have h' : ¬ 256 ≤ s := of_decide_eq_false h
  apply decide_eq_false
  unfold Km.sentS Km.sentV
  split
  · rw [if_pos rfl]; omega
  · exact h'
theorem fit_bad (m : Mm.St) (e : Mm.Ev) : Fit (Mm.bad m e).1 := by
  unfold Mm.bad
  cases ho : Km.offC m.cs
  · exact ⟨fun _ => ho, fun h => (by cases h), fun h => (by cases h)⟩
  · exact ⟨fun h => absurd rfl h, fun h => (by cases h), fun h => (by cases h)⟩
theorem fit_hearing {m : Mm.St} (h : Fit m) (hp : m.ph = .inFr) (c : Bool) : Fit (Mm.hearing m c).1 := by
  have ho := h.off (by rw [hp]; intro k; cases k)
  unfold Mm.hearing
  split
  · exact ⟨fun _ => ho, fun k => (by cases k), fun k => (by cases k)⟩
  · split
    · exact fit_bad _ _
    · split
      · exact ⟨fun _ => ho, fun k => (by first | cases k | (have k' : m.ph = _ := k; rw [hp] at k'; cases k')), fun k => (by first | cases k | (have k' : m.ph = _ := k; rw [hp] at k'; cases k'))⟩
      · exact ⟨fun _ => ho, fun k => (by first | cases k | (have k' : m.ph = _ := k; rw [hp] at k'; cases k')), fun k => (by first | cases k | (have k' : m.ph = _ := k; rw [hp] at k'; cases k'))⟩
theorem fit_sending {m : Mm.St} (h : Fit m) (hp : m.ph = .inFr) (c : Bool) : Fit (Mm.sending m c).1 := by
  have ho := h.off (by rw [hp]; intro k; cases k)
  unfold Mm.sending
  split
  · exact fit_hearing (m := { m with snd := false }) ⟨h.off, h.reco, h.idle⟩ hp c
  · split
    · exact fit_bad _ _
    · split
      · exact fit_bad _ _
      · split
        · exact ⟨fun _ => offC_good ho, fun k => (by cases k), fun k => (by cases k)⟩
        · exact ⟨fun _ => ho, fun k => (by first | cases k | (have k' : m.ph = _ := k; rw [hp] at k'; cases k')), fun k => (by first | cases k | (have k' : m.ph = _ := k; rw [hp] at k'; cases k'))⟩
theorem fit_sample {m : Mm.St} (h : Fit m) (c : Bool) : Fit (Mm.sample m c).1 := by
  unfold Mm.sample
  cases hp : m.ph
  · dsimp only
    split
    · exact h
    · exact ⟨fun _ => h.off (by rw [hp]; intro k; cases k), fun k => (by cases k), fun k => (by cases k)⟩
  · dsimp only
    split
    · exact fit_sending h hp c
    · exact fit_hearing h hp c
  · dsimp only
    have ho := h.off (by rw [hp]; intro k; cases k)
    split
    · exact ⟨fun _ => ho, fun _ _ => rfl, fun k => (by cases k)⟩
    · exact ⟨fun _ => ho, fun k => (by first | cases k | (have k' : m.ph = _ := k; rw [hp] at k'; cases k')), fun k => (by first | cases k | (have k' : m.ph = _ := k; rw [hp] at k'; cases k'))⟩
  · dsimp only
    have ho := h.off (by rw [hp]; intro k; cases k)
    unfold Mm.recover
    cases hf : m.first
    · rw [if_neg (by decide)]
      split
      · exact ⟨fun _ => ho, fun _ k => (by first | cases k | (have k' : m.first = _ := k; rw [hf] at k'; cases k')), fun k => (by first | cases k | (have k' : m.ph = _ := k; rw [hp] at k'; cases k'))⟩
      · split
        · exact ⟨fun _ => ho, fun k => (by cases k), fun k => (by cases k)⟩
        · exact ⟨fun _ => ho, fun _ k => (by first | cases k | (have k' : m.first = _ := k; rw [hf] at k'; cases k')), fun k => (by first | cases k | (have k' : m.ph = _ := k; rw [hp] at k'; cases k'))⟩
    · rw [if_pos rfl]
      exact ⟨fun _ => ho, fun _ _ => h.reco hp hf, fun k => (by first | cases k | (have k' : m.ph = _ := k; rw [hp] at k'; cases k'))⟩
  · dsimp only
    have ho := h.off (by rw [hp]; intro k; cases k)
    split
    · exact ⟨fun _ => ho, fun k => (by cases k), fun k => (by cases k)⟩
    · split
      · exact ⟨fun _ => ho, fun k => (by cases k), fun _ => rfl⟩
      · exact ⟨fun _ => ho, fun k => (by first | cases k | (have k' : m.ph = _ := k; rw [hp] at k'; cases k')), fun k => (by first | cases k | (have k' : m.ph = _ := k; rw [hp] at k'; cases k'))⟩
  · dsimp only
    exact h
/-- The byte that comes as a bit. -/
inductive Lev : UInt8 → Bool → Prop
  | zero : Lev 48 false
  | one (c : UInt8) (h : ((c.toNat : Int) == 48) = false) : Lev c true
theorem lev_of (c : UInt8) : Lev c (c != 48) := by
  by_cases h : c = 48
  · subst h; exact Lev.zero
  · have e : (c != 48) = true := by simpa using h
    rw [e]
    refine Lev.one c ?_
    have : c.toNat ≠ 48 := fun k => h (UInt8.toNat_inj.1 (by simpa using k))
    simp
    omega
def Samp (w : World) (p : Nat) (m : Mm.St) (c : UInt8) (u : Bool) : Prop := Calls Tryz.prog 41 #[bptr p, .int .u8 (c.toNat : Int)] w fun e w' => Told w p (Mm.sample m u).2 (mlc (Mm.sample m u).1) e w'
theorem samp_off (w : World) (p : Nat) (m : Mm.St) (c : UInt8) (u : Bool) (hu : Lev c u) (hO : Mm.Ok m) (hp : m.ph = .off) (h : LRow w p (mlc m)) : Samp w p m c u := by
  have e : Mm.sample m u = (m, []) := by unfold Mm.sample; rw [hp]
  have ek : kI m = 6 := by unfold kI; rw [hp]
  unfold Samp
  rw [e]
  unfold mlc at h ⊢
  rw [ek] at h ⊢
  cases hu with
  | zero => exact lsamp6_48 w p _ _ _ _ _ _ _ _ _ [] #[] h
  | one c hc => exact lsamp6_49 w p _ _ _ _ _ _ _ _ _ c hc [] #[] h
theorem samp_flag (w : World) (p : Nat) (m : Mm.St) (c : UInt8) (u : Bool) (hu : Lev c u) (hO : Mm.Ok m) (hp : m.ph = .flag) (h : LRow w p (mlc m)) : Samp w p m c u := by
  have ek : kI m = 3 := by unfold kI; rw [hp]
  have el : lI m = (m.left : Int) := by unfold lI; rw [hp]
  have er : rowT m = ⟨#[]⟩ := by unfold rowT; rw [if_neg (by rw [hp]; intro k; cases k)]
  obtain ⟨l1, l2⟩ := hO.flag hp
  unfold Samp
  by_cases h1 : m.left = 1
  · have e : Mm.sample m u = ({ m with ph := .reco, left := 7, first := true }, []) := by unfold Mm.sample; rw [hp]; dsimp only; rw [if_pos h1]
    rw [e]
    have em : mlc { m with ph := .reco, left := 7, first := true } = lcs 4 8 ⟨#[]⟩ (ownF m).1 ((ownF m).2.1 : Int) (ownF m).2.2.1 ⟨(ownF m).2.2.2.toArray⟩ (wireT m) m.cs m.cg := rfl
    rw [em]
    unfold mlc at h
    rw [ek, el, er, h1] at h
    cases hu with
    | zero => exact lsamp3_48 w p _ _ _ _ _ _ _ _ _ [] #[] 4 8 less_flag h
    | one c hc => exact lsamp3_49 w p _ _ _ _ _ _ _ _ _ c hc [] #[] 4 8 less_flag h
  · have e : Mm.sample m u = ({ m with left := m.left - 1 }, []) := by unfold Mm.sample; rw [hp]; dsimp only; rw [if_neg h1]
    rw [e]
    have em : mlc { m with left := m.left - 1 } = lcs 3 ((m.left : Int) - 1) ⟨#[]⟩ (ownF m).1 ((ownF m).2.1 : Int) (ownF m).2.2.1 ⟨(ownF m).2.2.2.toArray⟩ (wireT m) m.cs m.cg := by
      have e1 : kI { m with left := m.left - 1 } = 3 := by unfold kI; dsimp only; rw [hp]
      have e2 : lI { m with left := m.left - 1 } = (m.left : Int) - 1 := by unfold lI; dsimp only; rw [hp]; dsimp only; omega
      have e3 : rowT { m with left := m.left - 1 } = ⟨#[]⟩ := er
      unfold mlc
      rw [e1, e2, e3]
      rfl
    rw [em]
    unfold mlc at h
    rw [ek, el, er] at h
    have hL := fun w => less_more 3 (m.left : Int) (by omega) (by omega) w
    cases hu with
    | zero => exact lsamp3_48 w p _ _ _ _ _ _ _ _ _ [] #[] 3 _ hL h
    | one c hc => exact lsamp3_49 w p _ _ _ _ _ _ _ _ _ c hc [] #[] 3 _ hL h
theorem samp_reco (w : World) (p : Nat) (m : Mm.St) (c : UInt8) (u : Bool) (hu : Lev c u) (hO : Mm.Ok m) (hF : Fit m) (hp : m.ph = .reco) (h : LRow w p (mlc m)) : Samp w p m c u := by
  have ek : kI m = 4 := by unfold kI; rw [hp]
  have el : lI m = if m.first then 8 else (m.left : Int) := by unfold lI; rw [hp]
  have er : rowT m = ⟨#[]⟩ := by unfold rowT; rw [if_neg (by rw [hp]; intro k; cases k)]
  obtain ⟨l1, l2⟩ := hO.reco hp
  have e : Mm.sample m u = (Mm.recover m u, []) := by unfold Mm.sample; rw [hp]
  have em : ∀ m' : Mm.St, m'.ph = .reco → ownF m' = ownF m → wireT m' = wireT m → m'.cs = m.cs → m'.cg = m.cg → mlc m' = lcs 4 (if m'.first then 8 else (m'.left : Int)) ⟨#[]⟩ (ownF m).1 ((ownF m).2.1 : Int) (ownF m).2.2.1 ⟨(ownF m).2.2.2.toArray⟩ (wireT m) m.cs m.cg := fun m' a b c d e => by
    have e1 : kI m' = 4 := by unfold kI; rw [a]
    have e2 : lI m' = if m'.first then 8 else (m'.left : Int) := by unfold lI; rw [a]
    have e3 : rowT m' = ⟨#[]⟩ := by unfold rowT; rw [if_neg (by rw [a]; intro k; cases k)]
    unfold mlc
    rw [e1, e2, e3, b, c, d, e]
  unfold Samp
  rw [e]
  unfold mlc at h
  rw [ek, el, er] at h
  cases hf : m.first
  · rw [hf, if_neg (by decide)] at h
    cases hu with
    | zero =>
      have er : Mm.recover m false = { m with left := 7 } := by unfold Mm.recover; rw [hf, if_neg (by decide), if_pos rfl]
      rw [er, em { m with left := 7 } hp rfl rfl rfl rfl]
      have hS := lsettle0 w p (m.left : Int) ⟨by omega, by omega⟩ _ _ _ _ _ _ _ _ h
      rw [show max (m.left : Int) 7 = 7 by omega] at hS
      refine lsamp4_48 w p _ _ _ _ _ _ _ _ _ [] _ (hS.mono fun e w' hR => ?_) h
      refine ⟨hR.1, ?_, hR.2.2⟩
      have : (if ({ m with left := 7 } : Mm.St).first then (8 : Int) else (({ m with left := 7 } : Mm.St).left : Int)) = 7 := by show (if m.first = true then (8 : Int) else 7) = 7; rw [hf]; rfl
      rw [this]
      exact hR.2.1
    | one c hc =>
      by_cases h1 : m.left = 1
      · have er : Mm.recover m true = { m with ph := .pause, left := 3 } := by unfold Mm.recover; rw [hf, if_neg (by decide), if_neg (by decide), if_pos h1]
        rw [er]
        rw [h1] at h
        exact lsamp4_49 w p _ _ _ _ _ _ _ _ _ c hc [] _ (lsettle1 w p 1 5 3 _ _ _ _ _ _ _ _ (less_end 4 (Or.inr (Or.inr rfl))) h) h
      · have er : Mm.recover m true = { m with left := m.left - 1 } := by unfold Mm.recover; rw [hf, if_neg (by decide), if_neg (by decide), if_neg h1]
        rw [er, em { m with left := m.left - 1 } hp rfl rfl rfl rfl]
        have : (if ({ m with left := m.left - 1 } : Mm.St).first then (8 : Int) else (({ m with left := m.left - 1 } : Mm.St).left : Int)) = (m.left : Int) - 1 := by show (if m.first = true then (8 : Int) else ((m.left - 1 : Nat) : Int)) = _; rw [hf, if_neg (by decide)]; omega
        rw [this]
        exact lsamp4_49 w p _ _ _ _ _ _ _ _ _ c hc [] _ (lsettle1 w p _ 4 _ _ _ _ _ _ _ _ _ (less_more 4 (m.left : Int) (by omega) (by omega)) h) h
  · rw [hf, if_pos rfl] at h
    have h7 := hF.reco hp hf
    cases hu with
    | zero =>
      have er : Mm.recover m false = { m with first := true } := by unfold Mm.recover; rw [hf, if_pos rfl]; rfl
      rw [er, em { m with first := true } hp rfl rfl rfl rfl]
      have hS := lsettle0 w p 8 ⟨by decide, by decide⟩ _ _ _ _ _ _ _ _ h
      rw [show max (8 : Int) 7 = 8 by decide] at hS
      exact lsamp4_48 w p _ _ _ _ _ _ _ _ _ [] _ hS h
    | one c hc =>
      have er : Mm.recover m true = { m with first := false } := by unfold Mm.recover; rw [hf, if_pos rfl]; rfl
      rw [er, em { m with first := false } hp rfl rfl rfl rfl]
      have : (if ({ m with first := false } : Mm.St).first then (8 : Int) else (({ m with first := false } : Mm.St).left : Int)) = 8 - 1 := by show (m.left : Int) = _; rw [h7]; rfl
      rw [this]
      exact lsamp4_49 w p _ _ _ _ _ _ _ _ _ c hc [] _ (lsettle1 w p 8 4 _ _ _ _ _ _ _ _ _ (less_more 4 8 (by decide) (by decide)) h) h
theorem busy_has {m : Mm.St} (hs : m.snd = false) : Mm.busy m = m.has := by unfold Mm.busy; rw [hs, Bool.or_false]
theorem snd_not {m : Mm.St} (hO : Mm.Ok m) (hp : m.ph ≠ .inFr) : m.snd = false := by
  cases hs : m.snd
  · rfl
  · exact absurd (hO.snd hs).1 hp
theorem samp_pause (w : World) (p : Nat) (m : Mm.St) (c : UInt8) (u : Bool) (hu : Lev c u) (hO : Mm.Ok m) (hp : m.ph = .pause) (h : LRow w p (mlc m)) : Samp w p m c u := by
  have ek : kI m = 5 := by unfold kI; rw [hp]
  have el : lI m = (m.left : Int) := by unfold lI; rw [hp]
  have er : rowT m = ⟨#[]⟩ := by unfold rowT; rw [if_neg (by rw [hp]; intro k; cases k)]
  have hs := snd_not hO (by rw [hp]; intro k; cases k)
  obtain ⟨l1, l2⟩ := hO.pause hp
  unfold Samp
  unfold mlc at h
  rw [ek, el, er] at h
  cases hu with
  | zero =>
    have e : Mm.sample m false = Mm.start m false := by unfold Mm.sample; rw [hp]; rfl
    rw [e]
    have em : mlc (Mm.start m false).1 = lcs 2 0 ⟨#[48]⟩ (ownF m).1 ((ownF m).2.1 : Int) (ownF m).2.2.1 ⟨(ownF m).2.2.2.toArray⟩ (wireT m) m.cs m.cg := by
      have e0 : Mm.busy (Mm.start m false).1 = Mm.busy m := by rw [busy_has hs]; show (m.has || false) = m.has; rw [Bool.or_false]
      have e2 : lI (Mm.start m false).1 = 0 := by show ((Mm.lo [false] : Nat) : Int) = 0; rw [Mm.lo_start]; rfl
      have e4 : ownF (Mm.start m false).1 = ownF m := by unfold ownF; rw [e0]; rfl
      have e5 : wireT (Mm.start m false).1 = wireT m := by unfold wireT; rw [e0]; rfl
      unfold mlc
      rw [e2, e4, e5]
      rfl
    rw [em]
    exact lsamp5_48 w p _ _ _ _ _ _ _ _ _ _ _ (lrest3 w p _ _ _ _ _ _ _ _ _ h) h
  | one c hc =>
    by_cases h1 : m.left = 1
    · have e : Mm.sample m true = ({ m with ph := .idle, left := 0 }, []) := by unfold Mm.sample; rw [hp]; dsimp only; rw [if_neg (by decide), if_pos h1]
      rw [e]
      rw [h1] at h
      exact lsamp5_49 w p _ _ _ _ _ _ _ _ _ c hc _ _ (lrest2 w p _ _ _ _ _ _ _ _ 1 0 0 less_pause h) h
    · have e : Mm.sample m true = ({ m with left := m.left - 1 }, []) := by unfold Mm.sample; rw [hp]; dsimp only; rw [if_neg (by decide), if_neg h1]
      rw [e]
      have em : mlc { m with left := m.left - 1 } = lcs 5 ((m.left : Int) - 1) ⟨#[]⟩ (ownF m).1 ((ownF m).2.1 : Int) (ownF m).2.2.1 ⟨(ownF m).2.2.2.toArray⟩ (wireT m) m.cs m.cg := by
        have e1 : kI { m with left := m.left - 1 } = 5 := by unfold kI; dsimp only; rw [hp]
        have e2 : lI { m with left := m.left - 1 } = (m.left : Int) - 1 := by unfold lI; dsimp only; rw [hp]; dsimp only; omega
        have e3 : rowT { m with left := m.left - 1 } = ⟨#[]⟩ := er
        unfold mlc
        rw [e1, e2, e3]
        rfl
      rw [em]
      exact lsamp5_49 w p _ _ _ _ _ _ _ _ _ c hc _ _ (lrest2 w p _ _ _ _ _ _ _ _ _ 5 _ (less_more 5 (m.left : Int) (by omega) (by omega)) h) h
theorem samp_idle (w : World) (p : Nat) (m : Mm.St) (c : UInt8) (u : Bool) (hu : Lev c u) (hO : Mm.Ok m) (hF : Fit m) (hp : m.ph = .idle) (h : LRow w p (mlc m)) : Samp w p m c u := by
  have ek : kI m = 0 := by unfold kI; rw [hp]
  have el : lI m = 0 := by unfold lI; rw [hp]
  have er : rowT m = ⟨#[]⟩ := by unfold rowT; rw [if_neg (by rw [hp]; intro k; cases k)]
  have hs := snd_not hO (by rw [hp]; intro k; cases k)
  unfold Samp
  have h' := h
  unfold mlc at h
  rw [ek, el, er] at h
  cases hu with
  | zero =>
    have e : Mm.sample m false = Mm.start m m.has := by unfold Mm.sample; rw [hp]; rfl
    rw [e]
    cases hh : m.has
    · have hb : Mm.busy m = false := by rw [busy_has hs, hh]
      have em : mlc (Mm.start m false).1 = lcs 2 0 ⟨#[48]⟩ (ownF m).1 ((ownF m).2.1 : Int) (ownF m).2.2.1 ⟨(ownF m).2.2.2.toArray⟩ (wireT m) m.cs m.cg := by
        have e0 : Mm.busy (Mm.start m false).1 = Mm.busy m := by rw [busy_has hs]; show (m.has || false) = m.has; rw [Bool.or_false]
        have e2 : lI (Mm.start m false).1 = 0 := by show ((Mm.lo [false] : Nat) : Int) = 0; rw [Mm.lo_start]; rfl
        have e4 : ownF (Mm.start m false).1 = ownF m := by unfold ownF; rw [e0]; rfl
        have e5 : wireT (Mm.start m false).1 = wireT m := by unfold wireT; rw [e0]; rfl
        unfold mlc
        rw [e2, e4, e5]
        rfl
      rw [em]
      rw [wire_none hb] at h ⊢
      exact lsamp0_48 w p _ _ _ _ _ _ _ _ _ _ _ (lrest4 w p _ _ _ _ _ _ _ _ h) h
    · have hb : Mm.busy m = true := by rw [busy_has hs, hh]
      obtain ⟨w1, w2⟩ := wire_some hO hb
      have em : mlc (Mm.start m true).1 = lcs 1 (((wireT m).size : Int) - 1) ⟨#[48]⟩ (ownF m).1 ((ownF m).2.1 : Int) (ownF m).2.2.1 ⟨(ownF m).2.2.2.toArray⟩ (wireT m) m.cs m.cg := by
        have e0 : Mm.busy (Mm.start m true).1 = true := by show (false || true) = true; rfl
        have ew : wireT m = txt (Mm.outB m.f) := by unfold wireT; rw [if_pos hb]
        have e2 : lI (Mm.start m true).1 = ((wireT m).size : Int) - 1 := by rw [ew, txt_size]; rfl
        have e4 : ownF (Mm.start m true).1 = ownF m := by unfold ownF; rw [if_pos e0, if_pos hb]; rfl
        have e5 : wireT (Mm.start m true).1 = wireT m := by unfold wireT; rw [if_pos e0, if_pos hb]; rfl
        unfold mlc
        rw [e2, e4, e5]
        rfl
      rw [em]
      exact lsamp0_48 w p _ _ _ _ _ _ _ _ _ _ _ (lrest5 w p _ _ _ _ _ _ _ _ _ w1 w2 h) h
  | one c hc =>
    have e : Mm.sample m true = (m, []) := by unfold Mm.sample; rw [hp]; rfl
    rw [e]
    have em : mlc m = lcs 0 0 ⟨#[]⟩ (ownF m).1 ((ownF m).2.1 : Int) (ownF m).2.2.1 ⟨(ownF m).2.2.2.toArray⟩ (wireT m) m.cs m.cg := by unfold mlc; rw [ek, el, er]
    rw [em]
    exact lsamp0_49 w p _ _ _ _ _ _ _ _ _ c hc _ _ (lrest1 w p _ _ _ _ _ _ _ _ _ h) h
end Go.Proofs.YthkaekpoicodeaaGreatDoor
/- Package mac, over the landed code: a node as the laws want it. -/
namespace Go.Proofs.YthkaekpoicodeaaGreatDoor
open Go.RowKit
set_option linter.unusedVariables false
theorem lfr_n {f : Cm.Fr} (h : Mm.isFr f = true) : f.2.1 < 4294967296 := by
  have h1 := (Fm.isF_parts h).1
  unfold Fm.top at h1
  split at h1 <;> omega
/-- Hearing: the cells and events are the plain state's. -/
theorem hear_eq {m : Mm.St} (c : Bool) (hO : Mm.Ok m) (hF : Fit m) (hp : m.ph = .inFr) (hs : m.snd = false) :
    (Mm.hearing m c).2 = hearE m.bits c m.cs ∧ mlc (Mm.hearing m c).1 = hearC m.bits c (ownF m).1 ((ownF m).2.1 : Int) (ownF m).2.2.1 ⟨(ownF m).2.2.2.toArray⟩ (wireT m) m.cs m.cg := by
  have ho := hF.off (by rw [hp]; intro k; cases k)
  have htk := hO.lis hp hs
  have hG := (hO.good hp).1
  have hbz := busy_has hs
  unfold Mm.hearing hearE hearC
  by_cases h1 : Mm.lo m.bits = 1
  · have ht : m.tk = true := htk.2 ((Mm.lo_one _).1 h1)
    rw [if_pos ht, if_pos h1, if_pos h1]
    exact ⟨rfl, rfl⟩
  · have ht : ¬ m.tk = true := fun k => h1 ((Mm.lo_one _).2 (htk.1 k))
    rw [if_neg ht, if_neg h1, if_neg h1]
    by_cases h0 : Mm.code m.bits c = 0
    · rw [if_neg (not_not_intro h0), if_neg (not_not_intro h0), if_neg (not_not_intro h0)]
      have hk : ∀ m' : Mm.St, m'.ph = .inFr → m'.snd = false → m'.has = m.has → m'.f = m.f → m'.bits = m.bits ++ [c] → mlc m' = lcs 2 ((Mm.lo (m.bits ++ [c]) : Nat) : Int) (txt (m.bits ++ [c])) (ownF m).1 ((ownF m).2.1 : Int) (ownF m).2.2.1 ⟨(ownF m).2.2.2.toArray⟩ (wireT m) m'.cs m'.cg := fun m' a b d e f => by
        have eb : Mm.busy m' = Mm.busy m := by rw [hbz, busy_has b, d]
        have e1 : kI m' = 2 := by unfold kI; rw [a]; dsimp only; rw [b]; rfl
        have e2 : lI m' = ((Mm.lo (m.bits ++ [c]) : Nat) : Int) := by unfold lI; rw [a]; dsimp only; rw [b, f]; rfl
        have e3 : rowT m' = txt (m.bits ++ [c]) := by unfold rowT; rw [if_pos a, f]
        have e4 : ownF m' = ownF m := by unfold ownF; rw [eb, e]
        have e5 : wireT m' = wireT m := by unfold wireT; rw [eb, e]
        unfold mlc
        rw [e1, e2, e3, e4, e5]
      by_cases h9 : Mm.lo (m.bits ++ [c]) = 1
      · rw [if_pos ((Mm.lo_one _).1 h9), if_pos h9, if_pos h9]
        refine ⟨rfl, ?_⟩
        refine (hk { m with bits := m.bits ++ [c], tk := true, cg := Km.gotG m.cs m.cg true } hp hs rfl rfl rfl).trans ?_
        rw [h9]
        rfl
      · rw [if_neg (fun k => h9 ((Mm.lo_one _).2 k)), if_neg h9, if_neg h9]
        exact ⟨rfl, hk { m with bits := m.bits ++ [c] } hp hs rfl rfl rfl⟩
    · rw [if_pos h0, if_pos h0, if_pos h0]
      unfold Mm.bad fev fkl
      dsimp only
      rw [ho]
      rw [if_neg Bool.false_ne_true, if_neg Bool.false_ne_true, if_neg Bool.false_ne_true]
      refine ⟨rfl, ?_⟩
      have eb : ∀ m' : Mm.St, m'.ph = .flag → m'.snd = false → m'.has = m.has → m'.f = m.f → m'.left = 6 → mlc m' = lcs 3 6 ⟨#[]⟩ (ownF m).1 ((ownF m).2.1 : Int) (ownF m).2.2.1 ⟨(ownF m).2.2.2.toArray⟩ (wireT m) m'.cs m'.cg := fun m' a b d e f => by
        have eb : Mm.busy m' = Mm.busy m := by rw [hbz, busy_has b, d]
        have e1 : kI m' = 3 := by unfold kI; rw [a]
        have e2 : lI m' = 6 := by unfold lI; rw [a]; dsimp only; rw [f]; rfl
        have e3 : rowT m' = ⟨#[]⟩ := by unfold rowT; rw [if_neg (by rw [a]; intro k; cases k)]
        have e4 : ownF m' = ownF m := by unfold ownF; rw [eb, e]
        have e5 : wireT m' = wireT m := by unfold wireT; rw [eb, e]
        unfold mlc
        rw [e1, e2, e3, e4, e5]
      exact eb { m with cg := Km.gotG m.cs m.cg false, snd := false, ph := .flag, left := 6 } rfl rfl rfl rfl rfl
theorem samp_hear (w : World) (p : Nat) (m : Mm.St) (c : UInt8) (u : Bool) (hu : Lev c u) (hO : Mm.Ok m) (hF : Fit m) (hT : Tab w) (hp : m.ph = .inFr) (hs : m.snd = false) (h : LRow w p (mlc m)) : Samp w p m c u := by
  have e : Mm.sample m u = Mm.hearing m u := by unfold Mm.sample; rw [hp]; dsimp only; rw [if_neg (by rw [hs]; decide)]
  have em : mlc m = lcs 2 ((Mm.lo m.bits : Nat) : Int) (txt m.bits) (ownF m).1 ((ownF m).2.1 : Int) (ownF m).2.2.1 ⟨(ownF m).2.2.2.toArray⟩ (wireT m) m.cs m.cg := by
    have e1 : kI m = 2 := by unfold kI; rw [hp]; dsimp only; rw [hs]; rfl
    have e2 : lI m = ((Mm.lo m.bits : Nat) : Int) := by unfold lI; rw [hp]; dsimp only; rw [hs]; rfl
    have e3 : rowT m = txt m.bits := by unfold rowT; rw [if_pos hp]
    unfold mlc
    rw [e1, e2, e3]
  rw [em] at h
  obtain ⟨q1, q2⟩ := hear_eq u hO hF hp hs
  have hH := lhear_st w p m.bits u (ownF m).1 ((ownF m).2.1 : Int) (ownF m).2.2.1 ⟨(ownF m).2.2.2.toArray⟩ (wireT m) m.cs m.cg (hO.good hp).1 hT hO.cnt h
  unfold Samp
  rw [e, q1, q2]
  have hn := hearE_short m.bits u m.cs
  cases hu with
  | zero => exact lsamp2_48 w p _ _ _ _ _ _ _ _ _ _ _ hn hH h
  | one c hc => exact lsamp2_49 w p _ _ _ _ _ _ _ _ _ c hc _ _ hn hH h
theorem fail_eq {m : Mm.St} (hO : Mm.Ok m) (hs : m.snd = true) (er : Nat) :
    (Mm.bad { m with cs := Km.sentS m.cs m.cg false } ⟨4, m.f, er⟩).2 = fev (Km.sentS m.cs m.cg false) ⟨4, m.f, er⟩ ∧
    mlc (Mm.bad { m with cs := Km.sentS m.cs m.cg false } ⟨4, m.f, er⟩).1 = lcs (fkl (Km.sentS m.cs m.cg false)).1 (fkl (Km.sentS m.cs m.cg false)).2 ⟨#[]⟩ false 0 false ⟨#[]⟩ ⟨#[]⟩ (Km.sentS m.cs m.cg false) m.cg := by
  have hh : m.has = false := by
    cases k : m.has
    · rfl
    · have := (hO.has k).2.1; rw [hs] at this; cases this
  unfold Mm.bad fev fkl
  dsimp only
  cases ho : Km.offC (Km.sentS m.cs m.cg false)
  · rw [if_neg Bool.false_ne_true, if_neg Bool.false_ne_true, if_neg Bool.false_ne_true]
    refine ⟨rfl, ?_⟩
    unfold mlc ownF wireT Mm.busy
    dsimp only
    rw [hh]
    rfl
  · rw [if_pos rfl, if_pos rfl, if_pos rfl]
    exact ⟨rfl, rfl⟩
theorem samp_send (w : World) (p : Nat) (m : Mm.St) (c : UInt8) (u : Bool) (hu : Lev c u) (hO : Mm.Ok m) (hF : Fit m) (hT : Tab w) (hp : m.ph = .inFr) (hs : m.snd = true) (h : LRow w p (mlc m)) : Samp w p m c u := by
  obtain ⟨_, htk, hf, hbt, hlt⟩ := hO.snd hs
  obtain ⟨hL1, hL2⟩ := Mm.out_len hf
  have hAr := Mm.arb_le m.f
  have hh : m.has = false := by
    cases k : m.has
    · rfl
    · have := (hO.has k).2.1; rw [hs] at this; cases this
  have hb : Mm.busy m = true := by unfold Mm.busy; rw [hs, Bool.or_true]
  have e : Mm.sample m u = Mm.sending m u := by unfold Mm.sample; rw [hp]; dsimp only; rw [if_pos hs]
  have em : ∀ m' : Mm.St, m'.ph = .inFr → m'.snd = true → m'.f = m.f → mlc m' = lcs 1 (((Mm.outB m.f).length : Int) - (m'.bits.length : Int)) (txt m'.bits) m.f.1 (m.f.2.1 : Int) m.f.2.2.1 ⟨m.f.2.2.2.toArray⟩ (txt (Mm.outB m.f)) m'.cs m'.cg := fun m' a b d => by
    have hb' : Mm.busy m' = true := by unfold Mm.busy; rw [b, Bool.or_true]
    have e1 : kI m' = 1 := by unfold kI; rw [a]; dsimp only; rw [b]; rfl
    have e2 : lI m' = ((Mm.outB m.f).length : Int) - (m'.bits.length : Int) := by unfold lI; rw [a]; dsimp only; rw [b, d]; rfl
    have e3 : rowT m' = txt m'.bits := by unfold rowT; rw [if_pos a]
    have e4 : ownF m' = m.f := by unfold ownF; rw [if_pos hb', d]
    have e5 : wireT m' = txt (Mm.outB m.f) := by unfold wireT; rw [if_pos hb', d]
    unfold mlc
    rw [e1, e2, e3, e4, e5]
  rw [em m hp hs rfl] at h
  have hN : ∀ w', Below w.heap.size w w' → Calls Tryz.prog 55 #[bptr p] w' fun e w'' => e = .returned (dV ((Mm.outB m.f).getD m.bits.length true)) ∧ Below w'.heap.size w' w'' := fun w' hb => lnext_any w' p _ _ _ _ _ _ _ _ _ (Mm.outB m.f) m.bits.length hlt hL2 (txt_size _) (h.on hb)
  have hrs : (txt m.bits).size ≤ 1000 := by rw [txt_size]; omega
  unfold Samp
  rw [e]
  by_cases c1 : (Mm.outB m.f).getD m.bits.length true = true ∧ u = false ∧ m.bits.length + 1 ≤ Mm.arbL m.f
  · obtain ⟨d1, rfl, d3⟩ := c1
    have es : Mm.sending m false = ((Mm.hearing { m with snd := false } false).1, ⟨3, m.f, 0⟩ :: (Mm.hearing { m with snd := false } false).2) := by unfold Mm.sending; rw [if_pos ⟨d1, rfl, d3⟩]
    rw [es]
    cases hu
    rw [d1] at hN
    have hT0 : (Mm.feed m.bits).t = none := by rw [hbt]; exact Mm.ack_in hf _ (by omega)
    have hlo := Mm.lo_none hT0
    have hO2 : Mm.Ok { m with snd := false } := ⟨hO.cnt, hO.good, fun k => (by cases k), fun k => ⟨(hO.has k).1, rfl, (hO.has k).2.2⟩, fun _ _ => ⟨fun k => (by have k' : m.tk = true := k; rw [htk] at k'; cases k'), fun k => (by have k' : (Mm.feed m.bits).t = some 9 := k; rw [hT0] at k'; cases k')⟩, hO.flag, hO.reco, hO.pause⟩
    have hF2 : Fit { m with snd := false } := ⟨hF.off, hF.reco, hF.idle⟩
    obtain ⟨q1, q2⟩ := hear_eq false hO2 hF2 hp rfl
    have hnb : Mm.busy { m with snd := false } = false := by show (m.has || false) = false; rw [hh]; rfl
    rw [own_none hnb, wire_none hnb] at q2
    have hG := (hO.good hp).1
    have hNe := tab_ne hT h
    have hLo : ∀ w', Below w.heap.size w w' → Calls Tryz.prog 58 #[bptr p, .string ⟨#[48]⟩] w' fun e w'' => e = .returned (.bool true) ∧ Below w'.heap.size w' w'' := fun w' hb =>
      lloses3 w' p _ _ (txt m.bits) m.f.1 m.f.2.1 m.f.2.2.1 ⟨m.f.2.2.2.toArray⟩ _ _ _ (lfr_n hf) hf hrs (hT.below hb) true (decide_eq_true (by rw [txt_size]; exact d3)) (fun w2 hb2 => hN w2 (below_joinK hb hb2 hb.size)) (h.on hb)
    have hk := lsamp_lost w p _ (txt m.bits) m.f.1 m.f.2.1 m.f.2.2.1 ⟨m.f.2.2.2.toArray⟩ _ m.cs m.cg _ _ (hearE_short m.bits false m.cs) hLo (fun w' hK hR => lhear_st w' p m.bits false false 0 false ⟨#[]⟩ ⟨#[]⟩ m.cs m.cg hG (hT.kp hNe hK) hO.cnt (by rw [hlo]; exact hR)) h
    exact hk.mono fun e w' hR => hR.cs (by rw [q1]) (by rw [q2]; rfl)
  · have hLo : ∀ C, (u = false → C = (48 : UInt8)) → (u = true → C = 49) → ∀ w', Below w.heap.size w w' → Calls Tryz.prog 58 #[bptr p, .string ⟨#[C]⟩] w' fun e w'' => e = .returned (.bool false) ∧ Below w'.heap.size w' w'' := fun C hC0 hC1 w' hb => by
      cases u
      · rw [hC0 rfl]
        cases hd : (Mm.outB m.f).getD m.bits.length true
        · refine lloses2 w' p (fun w2 hb2 => ?_)
          have := hN w2 (below_joinK hb hb2 hb.size)
          rw [hd] at this
          exact this
        · refine lloses3 w' p _ _ (txt m.bits) m.f.1 m.f.2.1 m.f.2.2.1 ⟨m.f.2.2.2.toArray⟩ _ _ _ (lfr_n hf) hf hrs (hT.below hb) false (decide_eq_false ?_) (fun w2 hb2 => ?_) (h.on hb)
          · rw [txt_size]
            exact fun k => c1 ⟨hd, rfl, k⟩
          · have := hN w2 (below_joinK hb hb2 hb.size)
            rw [hd] at this
            exact this
      · rw [hC1 rfl]
        exact lloses1 w' p
    have fin : ∀ (evs : List Mm.Ev) (cs : Array Value), (∀ w', Below w.heap.size w w' → Calls Tryz.prog 59 #[bptr p, .string ⟨#[if u then 49 else 48]⟩] w' fun e w'' => Told w' p evs cs e w'') → Calls Tryz.prog 41 #[bptr p, .int .u8 (c.toNat : Int)] w fun e w' => Told w p evs cs e w' := fun evs cs hS => by
      cases hu with
      | zero => exact lsamp1_48 w p _ _ _ _ _ _ _ _ _ evs cs (hLo 48 (fun _ => rfl) (fun k => by cases k)) hS h
      | one c hc => exact lsamp1_49 w p _ _ _ _ _ _ _ _ _ c hc evs cs (hLo 49 (fun k => by cases k) (fun _ => rfl)) hS h
    have hfd : (m.f.1, m.f.2.1, m.f.2.2.1, (ByteArray.mk m.f.2.2.2.toArray).data.toList) = m.f := rfl
    by_cases c2 : m.bits.length + 1 = (Mm.outB m.f).length - 8 ∧ u = true
    · have es : Mm.sending m u = Mm.bad { m with cs := Km.sentS m.cs m.cg false } ⟨4, m.f, 71⟩ := by unfold Mm.sending; rw [if_neg c1, if_pos c2]
      obtain ⟨q1, q2⟩ := fail_eq hO hs 71
      rw [es, q1, q2]
      refine fin _ _ fun w' hb => ?_
      have h9 : ((Mm.outB m.f).length : Int) - (m.bits.length : Int) = 9 := by omega
      have hh' := h.on hb
      rw [h9] at hh'
      rw [c2.2]
      exact lsend_ack w' p (txt m.bits) m.f.1 m.f.2.1 m.f.2.2.1 ⟨m.f.2.2.2.toArray⟩ _ m.cs m.cg hO.cnt hh'
    · by_cases c3 : m.bits.length + 1 ≠ (Mm.outB m.f).length - 8 ∧ (Mm.outB m.f).getD m.bits.length true ≠ u
      · have es : Mm.sending m u = Mm.bad { m with cs := Km.sentS m.cs m.cg false } ⟨4, m.f, 70⟩ := by unfold Mm.sending; rw [if_neg c1, if_neg c2, if_pos c3]
        obtain ⟨q1, q2⟩ := fail_eq hO hs 70
        rw [es, q1, q2]
        refine fin _ _ fun w' hb => ?_
        have hdn : ∀ a b : Bool, a ≠ b → a = !b := by decide
        have hd : (Mm.outB m.f).getD m.bits.length true = !u := hdn _ _ c3.2
        refine lsend_bit w' p _ (txt m.bits) m.f.1 m.f.2.1 m.f.2.2.1 ⟨m.f.2.2.2.toArray⟩ _ m.cs m.cg u (by simp; omega) hO.cnt (fun w2 hb2 => ?_) (h.on hb)
        have := hN w2 (below_joinK hb hb2 hb.size)
        rw [hd] at this
        exact this
      · have hfit : ∀ w', Below w.heap.size w w' → Fits w' p (((Mm.outB m.f).length : Int) - (m.bits.length : Int)) u := fun w' hb => by
          by_cases h9 : m.bits.length + 1 = (Mm.outB m.f).length - 8
          · left
            refine ⟨by omega, ?_⟩
            cases u
            · rfl
            · exact absurd ⟨h9, rfl⟩ c2
          · right
            refine ⟨by simp; omega, fun w2 hb2 => ?_⟩
            have hd : (Mm.outB m.f).getD m.bits.length true = u := Classical.byContradiction fun k => c3 ⟨h9, k⟩
            have := hN w2 (below_joinK hb hb2 hb.size)
            rw [hd] at this
            exact this
        by_cases c4 : m.bits.length + 1 = (Mm.outB m.f).length
        · have es : Mm.sending m u = ({ m with bits := m.bits ++ [u], cs := Km.sentS m.cs m.cg true, snd := false, ph := .pause, left := 3 }, [⟨1, m.f, 0⟩]) := by unfold Mm.sending; rw [if_neg c1, if_neg c2, if_neg c3, if_pos c4]
          rw [es]
          have ec : mlc { m with bits := m.bits ++ [u], cs := Km.sentS m.cs m.cg true, snd := false, ph := .pause, left := 3 } = lcs 5 3 ⟨#[]⟩ false 0 false ⟨#[]⟩ ⟨#[]⟩ (Km.sentS m.cs m.cg true) m.cg := by
            unfold mlc ownF wireT Mm.busy
            dsimp only
            rw [hh]
            rfl
          dsimp only
          rw [ec]
          refine fin _ _ fun w' hb => ?_
          have h1 : ((Mm.outB m.f).length : Int) - (m.bits.length : Int) = 1 := by omega
          have hh' := h.on hb
          rw [h1] at hh'
          have hfi := hfit w' hb
          rw [h1] at hfi
          rcases hfi with ⟨k, _⟩ | ⟨_, k⟩
          · cases k
          · exact lsend_last w' p (txt m.bits) m.f.1 m.f.2.1 m.f.2.2.1 ⟨m.f.2.2.2.toArray⟩ _ m.cs m.cg u hrs hO.cnt k hh'
        · have es : Mm.sending m u = ({ m with bits := m.bits ++ [u] }, []) := by unfold Mm.sending; rw [if_neg c1, if_neg c2, if_neg c3, if_neg c4]
          rw [es]
          dsimp only
          rw [em { m with bits := m.bits ++ [u] } hp hs rfl]
          refine fin _ _ fun w' hb => ?_
          have hk := lsend_on w' p _ (txt m.bits) m.f.1 m.f.2.1 m.f.2.2.1 ⟨m.f.2.2.2.toArray⟩ _ m.cs m.cg u (by omega) (by omega) hrs (hfit w' hb) (h.on hb)
          refine hk.mono fun e w'' hR => hR.cs rfl ?_
          rw [txt_snoc]
          have : ((Mm.outB m.f).length : Int) - ((m.bits ++ [u]).length : Int) = ((Mm.outB m.f).length : Int) - (m.bits.length : Int) - 1 := by simp; omega
          dsimp only
          rw [this]
theorem samp_any (w : World) (p : Nat) (m : Mm.St) (c : UInt8) (hO : Mm.Ok m) (hF : Fit m) (hT : Tab w) (h : LRow w p (mlc m)) : Samp w p m c (c != 48) := by
  cases hp : m.ph
  · exact samp_idle w p m c _ (lev_of c) hO hF hp h
  · cases hs : m.snd
    · exact samp_hear w p m c _ (lev_of c) hO hF hT hp hs h
    · exact samp_send w p m c _ (lev_of c) hO hF hT hp hs h
  · exact samp_flag w p m c _ (lev_of c) hO hp h
  · exact samp_reco w p m c _ (lev_of c) hO hF hp h
  · exact samp_pause w p m c _ (lev_of c) hO hp h
  · exact samp_off w p m c _ (lev_of c) hO hp h
/-- The node at block p in the plain state m. -/
def MacAt (w : World) (p : Nat) (F : Nat → Prop) (m : Mm.St) : Prop := F = (fun g => g = p) ∧ Mm.Ok m ∧ Fit m ∧ LRow w p (mlc m)
theorem mask_any (w : World) (p : Nat) (m : Mm.St) (f : Cm.Fr) (hO : Mm.Ok m) (hT : Tab w) (hn : f.2.1 < 4294967296) (h : LRow w p (mlc m)) :
    Calls Tryz.prog 25 #[bptr p, frV f] w fun e w' => e = .returned (.int .i64 ((Mm.ask m f).1 : Int)) ∧ LRow w' p (mlc (Mm.ask m f).2) ∧ Kp p w w' := by
  unfold Mm.ask
  by_cases ho : m.ph = .off
  · rw [if_pos ho]
    have ek : kI m = 6 := by unfold kI; rw [ho]
    unfold mlc at h ⊢
    rw [ek] at h ⊢
    exact lask_off w p _ _ _ _ _ _ _ _ _ _ _ _ _ h
  · rw [if_neg ho]
    have ek : (kI m == 6) = false := by
      unfold kI
      cases hp : m.ph
      all_goals first | rfl | (exfalso; exact ho hp) | skip
      dsimp only
      split <;> rfl
    by_cases hF : Mm.isFr f = false
    · rw [if_pos hF]
      exact lask_form w p _ _ _ _ _ _ _ _ _ _ f.1 f.2.1 f.2.2.1 ⟨f.2.2.2.toArray⟩ ek hF hT h
    · rw [if_neg hF]
      have hF' : Mm.isFr f = true := by cases k : Mm.isFr f; exact absurd k hF; rfl
      by_cases hb : Mm.busy m = true
      · rw [if_pos hb]
        exact lask_busy w p _ _ _ _ _ _ _ _ _ _ f.1 f.2.1 f.2.2.1 ⟨f.2.2.2.toArray⟩ ek hF' (wire_some hO hb).1 hT h
      · have hb' : Mm.busy m = false := by cases k : Mm.busy m; rfl; exact absurd k hb
        rw [if_neg hb]
        have hs : m.snd = false := by unfold Mm.busy at hb'; cases k : m.snd; rfl; rw [k, Bool.or_true] at hb'; cases hb'
        unfold mlc at h
        rw [wire_none hb'] at h
        have hk := lask_ok w p _ _ _ _ _ _ _ _ _ f.1 f.2.1 f.2.2.1 ⟨f.2.2.2.toArray⟩ ek hF' hn hT h
        refine hk.mono fun e w' hR => ⟨hR.1, ?_, hR.2.2⟩
        have hF2 : Fm.isF f.1 f.2.1 f.2.2.1 f.2.2.2 = true := hF'
        have en : Cm.enc f.1 f.2.1 f.2.2.1 f.2.2.2 = Mm.outB f := by unfold Cm.enc; rw [if_pos hF2]; rfl
        have hR2 := hR.2.1
        have en' : Cm.enc f.1 f.2.1 f.2.2.1 (ByteArray.mk f.2.2.2.toArray).data.toList = Mm.outB f := en
        rw [en'] at hR2
        have eb : Mm.busy { m with has := true, f := f } = true := rfl
        have e1 : lI { m with has := true, f := f } = lI m := by
          unfold lI
          dsimp only
          cases hp : m.ph
          all_goals first | rfl | skip
          dsimp only
          rw [hs]
          rfl
        have e4 : ownF { m with has := true, f := f } = f := by unfold ownF; rw [if_pos eb]
        have e5 : wireT { m with has := true, f := f } = txt (Mm.outB f) := by unfold wireT; rw [if_pos eb]
        show LRow w' p (mlc { m with has := true, f := f })
        unfold mlc
        rw [e1, e4, e5]
        exact hR2
theorem mdrive_any (w : World) (p : Nat) (m : Mm.St) (hO : Mm.Ok m) (h : LRow w p (mlc m)) :
    Calls Tryz.prog 40 #[bptr p] w fun e w' => e = .returned (.int .u8 (if Mm.drive m then 49 else 48)) ∧ Below w.heap.size w w' := by
  unfold Mm.drive
  unfold mlc kI lI at h
  cases hp : m.ph
  · have hs := snd_not hO (by rw [hp]; intro k; cases k)
    rw [hp] at h
    dsimp only at h ⊢
    refine ldrive_idle w p _ _ _ _ _ _ _ _ _ m.has ?_ h
    cases hh : m.has
    · exact Or.inl ⟨wire_none (by rw [busy_has hs, hh]), rfl⟩
    · exact Or.inr ⟨(wire_some hO (by rw [busy_has hs, hh])).1, rfl⟩
  · rw [hp] at h
    dsimp only at h ⊢
    cases hs : m.snd
    · rw [hs] at h
      simp only [Bool.false_eq_true, if_false] at h ⊢
      have hk := ldrive_hear w p _ _ _ _ _ _ _ _ _ _ rfl h
      refine hk.mono fun e w' hR => ⟨?_, hR.2⟩
      rw [hR.1]
      have e9 : ((((Mm.lo m.bits : Nat) : Int)) == 9) = (decide ((Mm.feed m.bits).t = some 1) && Mm.rightS (Mm.feed m.bits)) := by
        rw [Bool.eq_iff_iff]
        simp only [beq_iff_eq, Bool.and_eq_true, decide_eq_true_eq]
        rw [← Mm.lo_nine]
        omega
      rw [e9]
      rfl
    · rw [hs] at h
      simp only [if_true] at h ⊢
      obtain ⟨_, _, hf, _, hlt⟩ := hO.snd hs
      have hb : Mm.busy m = true := by unfold Mm.busy; rw [hs, Bool.or_true]
      have hw : wireT m = txt (Mm.outB m.f) := by unfold wireT; rw [if_pos hb]
      have hr : rowT m = txt m.bits := by unfold rowT; rw [if_pos hp]
      rw [hw, hr] at h
      exact ldrive_send w p _ _ _ _ _ _ _ _ (Mm.outB m.f) m.bits.length hlt (Mm.out_len hf).2 (txt_size _) h
  · rw [hp] at h
    dsimp only at h ⊢
    exact ldrive_flag w p _ _ _ _ _ _ _ _ _ (isC_wf hO.cnt).1 (isC_wf hO.cnt).2 h
  · rw [hp] at h
    exact ldrive_else w p _ _ _ _ _ _ _ _ _ _ (Or.inl rfl) h
  · rw [hp] at h
    exact ldrive_else w p _ _ _ _ _ _ _ _ _ _ (Or.inr (Or.inl rfl)) h
  · rw [hp] at h
    exact ldrive_else w p _ _ _ _ _ _ _ _ _ _ (Or.inr (Or.inr rfl)) h
theorem mbusy_any (w : World) (p : Nat) (m : Mm.St) (hO : Mm.Ok m) (h : LRow w p (mlc m)) :
    Calls Tryz.prog 37 #[bptr p] w fun e w' => e = .returned (.bool (Mm.busy m)) ∧ Below w.heap.size w w' := by
  cases hb : Mm.busy m
  · unfold mlc at h
    rw [wire_none hb] at h
    exact lbusy0 w p _ _ _ _ _ _ _ _ _ h
  · exact lbusy1 w p _ _ _ _ _ _ _ _ _ _ (wire_some hO hb).1 h
theorem fit_ask {m : Mm.St} (h : Fit m) (f : Cm.Fr) : Fit (Mm.ask m f).2 := by
  unfold Mm.ask
  repeat' split
  all_goals exact ⟨h.off, h.reco, h.idle⟩
theorem macSpec : MacSpec MacAt where
  on := by
    rintro w w' p F m ⟨rfl, hO, hF, hR⟩ hk
    exact ⟨rfl, hO, hF, (hk p rfl).trans hR⟩
  lt := by
    rintro w p F m ⟨rfl, hO, hF, hR⟩ g rfl
    exact hR.lt
  ok := by
    rintro w p F m ⟨rfl, hO, hF, hR⟩
    exact hO
  new := fun w hT => (lnew_any w).mono fun e w' ⟨he, hR, hb⟩ => ⟨_, _, he, ⟨rfl, Mm.ok_fresh, fit_fresh, hR⟩, fun g hg => by rw [hg]; exact Nat.le_refl _, hb⟩
  ask := by
    rintro w p F m f ⟨rfl, hO, hF, hR⟩ hT hn _
    exact (mask_any w p m f hO hT hn hR).mono fun e w' ⟨he, hR', hk⟩ => ⟨he, _, ⟨rfl, Mm.ok_ask hO f, fit_ask hF f, hR'⟩, fun g hg => Or.inl hg, hk⟩
  drive := by
    rintro w p F m ⟨rfl, hO, hF, hR⟩ hT
    exact mdrive_any w p m hO hR
  sample := by
    rintro w p F m c ⟨rfl, hO, hF, hR⟩ hT
    refine (samp_any w p m c hO hF hT hR).mono fun e w' ⟨sl, cap, he, hE, hk, hm⟩ => ⟨sl, cap, he, hE, _, ⟨rfl, Mm.ok_sample hO _, fit_sample hF _, hm⟩, fun g hg => Or.inl hg, fun g o e => ?_, hk⟩
    have := (hE.zero g o e).2.1
    have h2 := hR.lt
    intro k
    omega
  busy := by
    rintro w p F m ⟨rfl, hO, hF, hR⟩ hT
    exact mbusy_any w p m hO hR
  counts := by
    rintro w p F m ⟨rfl, hO, hF, hR⟩ hT
    exact lcounts_any w p _ _ _ _ _ _ _ _ _ _ hR
  copy := by
    rintro w p F m ⟨rfl, hO, hF, hR⟩ hT
    exact (lcopy_any w p _ _ _ _ _ _ _ _ _ _ hR).mono fun e w' ⟨he, hR', hb⟩ => ⟨_, _, he, ⟨rfl, hO, hF, hR'⟩, fun g hg => by rw [hg]; exact Nat.le_refl _, hb⟩
end Go.Proofs.YthkaekpoicodeaaGreatDoor
