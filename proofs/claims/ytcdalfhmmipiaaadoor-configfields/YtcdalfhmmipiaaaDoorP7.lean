/- Plain mathematics of the landed reader of bytes: what it reads is what was laid; nothing of the program is in it. -/
import Derived.Test.YtcdalfhmmipiaaaDoorPq
namespace Go.Proofs.YtcdalfhmmipiaaaDoor.Pq
open Mx
set_option linter.unusedVariables false
/-- A byte that must be 0 or 1. -/
def flag (r : R) : Bool × R := ((one r).1 == 1, ⟨(one r).2.s, (one r).2.bad || decide (1 < (one r).1)⟩)
/-- The byte ahead of everything. -/
def sign (r : R) : R := ⟨(one r).2.s, (one r).2.bad || !((one r).1 == 79)⟩
def lMes (r : R) : Msg × R :=
  let a := twoR r; let b := one a.2; let c := flag b.2
  (⟨(a.1 % 4294967296).toNat, b.1, c.1⟩, c.2)
def lHead (r : R) : M × R :=
  let a := one (sign r); let b := one a.2; let c := one b.2; let d := twoR c.2; let e := one d.2; let f := one e.2; let g := twoR f.2; let h := twoR g.2
  (⟨a.1, b.1, c.1, d.1, e.1, f.1, g.1, (h.1 % 4294967296).toNat, [], [], []⟩, h.2)
def lM1 (p : M × R) : M × R := let n := one p.2; let l := many one n.1.toNat n.2; ({ p.1 with masters := l.1 }, l.2)
def lM2 (p : M × R) : M × R := let n := one p.2; let l := many lMes n.1.toNat n.2; ({ p.1 with messages := l.1 }, l.2)
def lM3 (p : M × R) : M × R := let n := one p.2; let l := many rWin n.1.toNat n.2; ({ p.1 with windows := l.1 }, l.2)
def lM (r : R) : M × R := lM3 (lM2 (lM1 (lHead r)))
/-- Unless it went bad these bytes were read. -/
def Ate (r r' : R) (l : List UInt8) : Prop := r'.bad = false → r.bad = false ∧ r.s = l ++ r'.s
theorem Ate.trans {r r1 r2 : R} {l k : List UInt8} (h : Ate r r1 l) (h2 : Ate r1 r2 k) : Ate r r2 (l ++ k) := fun hb => by
  obtain ⟨a, b⟩ := h2 hb
  obtain ⟨c, d⟩ := h a
  exact ⟨c, by rw [d, b, List.append_assoc]⟩
theorem Ate.to {r r1 : R} {l k : List UInt8} (h : Ate r r1 l) (e : l = k) : Ate r r1 k := e ▸ h
theorem Ate.bad {r r1 : R} {l : List UInt8} (h : Ate r r1 l) (hb : r.bad = true) : r1.bad = true := by
  cases h1 : r1.bad
  · rw [(h h1).1] at hb; cases hb
  · rfl
theorem u8_of (x : UInt8) : u8 (x.toNat : Int) = x := by
  have := x.toNat_lt
  unfold u8
  have e : ((x.toNat : Int) % 256).toNat = x.toNat := by omega
  rw [e]
  simp
theorem ate_one (r : R) : Ate r (one r).2 [u8 (one r).1] := by
  obtain ⟨s, b⟩ := r
  cases s with
  | nil => intro hb; cases hb
  | cons x t =>
    intro hb
    refine ⟨hb, ?_⟩
    show x :: t = [u8 (x.toNat : Int)] ++ t
    rw [u8_of]
    rfl
theorem one_rng (r : R) : 0 ≤ (one r).1 ∧ (one r).1 < 256 := by
  obtain ⟨s, b⟩ := r
  cases s with
  | nil => exact ⟨Int.le_refl _, by show (0 : Int) < 256; decide⟩
  | cons x t => exact ⟨by show 0 ≤ (x.toNat : Int); omega, by show (x.toNat : Int) < 256; have := x.toNat_lt; omega⟩
theorem u8_cong {a b : Int} (h : a % 256 = b % 256) : u8 a = u8 b := by unfold u8; rw [h]
theorem ate_two (r : R) : Ate r (twoR r).2 (two (twoR r).1) := by
  refine ((ate_one r).trans (ate_one (one r).2)).to ?_
  have h1 := one_rng r
  have h2 := one_rng (one r).2
  show [u8 (one r).1] ++ [u8 (one (one r).2).1] = [u8 ((256 * (one r).1 + (one (one r).2).1) / 256), u8 (256 * (one r).1 + (one (one r).2).1)]
  rw [u8_cong (a := (256 * (one r).1 + (one (one r).2).1) / 256) (b := (one r).1) (by omega), u8_cong (a := 256 * (one r).1 + (one (one r).2).1) (b := (one (one r).2).1) (by omega)]
  rfl
theorem two_rng (r : R) : 0 ≤ (twoR r).1 ∧ (twoR r).1 < 65536 := by
  have h1 := one_rng r
  have h2 := one_rng (one r).2
  show 0 ≤ 256 * (one r).1 + (one (one r).2).1 ∧ 256 * (one r).1 + (one (one r).2).1 < 65536
  omega
theorem ate_flag (r : R) : Ate r (flag r).2 [if (flag r).1 then 1 else 0] := by
  intro hb
  have hb' : ((one r).2.bad || decide (1 < (one r).1)) = false := hb
  rw [Bool.or_eq_false_iff, decide_eq_false_iff_not] at hb'
  obtain ⟨h1, h2⟩ := hb'
  obtain ⟨h3, h4⟩ := ate_one r h1
  refine ⟨h3, ?_⟩
  rw [h4]
  show [u8 (one r).1] ++ (one r).2.s = [if ((one r).1 == 1) = true then 1 else 0] ++ (one r).2.s
  have hr := one_rng r
  have h0 : (one r).1 = 0 ∨ (one r).1 = 1 := by omega
  rcases h0 with e | e <;> rw [e] <;> rfl
theorem ate_sign (r : R) : Ate r (sign r) [79] := by
  intro hb
  have hb' : ((one r).2.bad || !((one r).1 == 79)) = false := hb
  rw [Bool.or_eq_false_iff, Bool.not_eq_false', beq_iff_eq] at hb'
  obtain ⟨h1, h2⟩ := hb'
  obtain ⟨h3, h4⟩ := ate_one r h1
  refine ⟨h3, ?_⟩
  rw [h4, h2]
  rfl
theorem u32_two (r : R) : (((twoR r).1 % 4294967296).toNat : Int) = (twoR r).1 := by
  have := two_rng r
  omega
theorem ate_mes (r : R) : Ate r (lMes r).2 (mes (lMes r).1) := by
  refine ((ate_two r).trans ((ate_one _).trans (ate_flag _))).to ?_
  show _ = two (((twoR r).1 % 4294967296).toNat : Int) ++ [u8 (one (twoR r).2).1, if (flag (one (twoR r).2).2).1 then 1 else 0]
  rw [u32_two]
  rfl
theorem ate_win (r : R) : Ate r (rWin r).2 (win (rWin r).1) := by
  refine ((ate_one r).trans ((ate_two _).trans ((ate_two _).trans ((ate_one _).trans ((ate_one _).trans (ate_one _)))))).to ?_
  rfl
theorem ate_many {α : Type} (f : R → α × R) (g : α → List UInt8) (h : ∀ r, Ate r (f r).2 (g (f r).1)) : ∀ (n : Nat) (r : R), Ate r (many f n r).2 ((many f n r).1.flatMap g) ∧ ((many f n r).2.bad = false → (many f n r).1.length = n)
  | 0, r => ⟨fun hb => ⟨hb, rfl⟩, fun _ => rfl⟩
  | n + 1, r => by
    rw [many]
    cases hr : r.bad
    · simp only [Bool.false_eq_true, if_false]
      obtain ⟨h1, h2⟩ := ate_many f g h n (f r).2
      exact ⟨((h r).trans h1).to (by rw [List.flatMap_cons]), fun hb => by rw [List.length_cons, h2 hb]⟩
    · simp only [if_true]
      exact ⟨fun hb => ⟨hb, rfl⟩, fun hb => by rw [hr] at hb; cases hb⟩
theorem ate_head (r : R) : Ate r (lHead r).2 (front (lHead r).1) := by
  refine ((ate_sign r).trans ((ate_one _).trans ((ate_one _).trans ((ate_one _).trans ((ate_two _).trans ((ate_one _).trans ((ate_one _).trans ((ate_two _).trans (ate_two _))))))))).to ?_
  unfold lHead front
  simp only [u32_two]
  rfl
/-- A list with how many there are ahead of it. -/
theorem ate_list {α : Type} (f : R → α × R) (g : α → List UInt8) (h : ∀ r, Ate r (f r).2 (g (f r).1)) (r : R) : Ate r (many f (one r).1.toNat (one r).2).2 (u8 ((many f (one r).1.toNat (one r).2).1.length : Int) :: (many f (one r).1.toNat (one r).2).1.flatMap g) := by
  obtain ⟨h1, h2⟩ := ate_many f g h (one r).1.toNat (one r).2
  intro hb
  have h3 := h2 hb
  have h4 := one_rng r
  rw [h3, Int.toNat_of_nonneg h4.1]
  exact ((ate_one r).trans h1) hb
theorem ate_M (r : R) : Ate r (lM r).2 (laid (lM r).1) := by
  refine ((ate_head r).trans ((ate_list one (fun x => [u8 x]) ate_one (lHead r).2).trans ((ate_list lMes mes ate_mes (lM1 (lHead r)).2).trans (ate_list rWin win ate_win (lM2 (lM1 (lHead r))).2)))).to ?_
  unfold laid
  rw [map_flat]
  have e : front (lM r).1 = front (lHead r).1 := rfl
  rw [e]
  simp only [List.append_assoc, List.cons_append]
  rfl
theorem lMes_mes {x : Msg} (h : x.id < 65536 ∧ 0 ≤ x.owner ∧ x.owner < 256) (t : List UInt8) : lMes ⟨mes x ++ t, false⟩ = (x, ⟨t, false⟩) := by
  obtain ⟨h1, h2, h3⟩ := h
  unfold lMes mes
  simp only [List.append_assoc]
  rw [twoR_two (by omega)]
  simp only [List.cons_append, List.nil_append]
  rw [one_u8 ⟨h2, h3⟩]
  obtain ⟨i, o, e⟩ := x
  have hi : (((i : Int) % 4294967296).toNat) = i := by dsimp only at h1; omega
  cases e <;> simp only [hi] <;> rfl
theorem lM_laid {m : M} (h : Num m) (t : List UInt8) : lM ⟨laid m ++ t, false⟩ = (m, ⟨t, false⟩) := by
  have e : laid m ++ t = 79 :: u8 m.level :: u8 m.nodes :: u8 m.cycles :: (two m.length ++ (u8 m.enable :: u8 m.unit :: (two m.init ++ (two m.ref ++ (u8 m.masters.length :: (m.masters.flatMap (fun x => [u8 x]) ++ (u8 m.messages.length :: (m.messages.flatMap mes ++ (u8 m.windows.length :: (m.windows.flatMap win ++ t)))))))))) := by
    unfold laid front
    rw [map_flat]
    simp only [List.cons_append, List.nil_append, List.append_assoc]
  rw [e]
  have l1 := h.l1
  have l2 := h.l2
  have l3 := h.l3
  have hr := h.ref
  have es : ∀ t, sign ⟨79 :: t, false⟩ = ⟨t, false⟩ := fun t => rfl
  have eh : lHead ⟨79 :: u8 m.level :: u8 m.nodes :: u8 m.cycles :: (two m.length ++ (u8 m.enable :: u8 m.unit :: (two m.init ++ (two m.ref ++ (u8 m.masters.length :: (m.masters.flatMap (fun x => [u8 x]) ++ (u8 m.messages.length :: (m.messages.flatMap mes ++ (u8 m.windows.length :: (m.windows.flatMap win ++ t)))))))))), false⟩ = ({ m with masters := [], messages := [], windows := [] }, ⟨u8 m.masters.length :: (m.masters.flatMap (fun x => [u8 x]) ++ (u8 m.messages.length :: (m.messages.flatMap mes ++ (u8 m.windows.length :: (m.windows.flatMap win ++ t))))), false⟩) := by
    unfold lHead
    simp only [es, one_u8 h.level, one_u8 h.nodes, one_u8 h.cycles, twoR_two h.length, one_u8 h.enable, one_u8 h.unit, twoR_two h.init]
    rw [twoR_two (n := (m.ref : Int)) (by omega)]
    have hi : (((m.ref : Int) % 4294967296).toNat) = m.ref := by omega
    simp only [hi]
  unfold lM
  rw [eh]
  unfold lM1
  simp only
  rw [one_u8 (n := (m.masters.length : Int)) (by omega)]
  simp only [Int.toNat_natCast]
  rw [many_laid one (fun x => [u8 x]) m.masters (fun x hx t => one_u8 (h.masters x hx) t false)]
  unfold lM2
  simp only
  rw [one_u8 (n := (m.messages.length : Int)) (by omega)]
  simp only [Int.toNat_natCast]
  rw [many_laid lMes mes m.messages (fun x hx t => lMes_mes (h.messages x hx) t)]
  unfold lM3
  simp only
  rw [one_u8 (n := (m.windows.length : Int)) (by omega)]
  simp only [Int.toNat_natCast]
  rw [many_laid rWin win m.windows (fun x hx t => rWin_win (h.windows x hx) t)]
theorem lM_of {b : List UInt8} {m : M} (h : Of b m) : lM ⟨b, false⟩ = (m, ⟨[], false⟩) := by
  obtain ⟨h1, h2⟩ := h
  rw [pr_is h1] at h2
  have := lM_laid (num_of h1) []
  rw [h2, List.append_nil] at this
  exact this
/-- What the landed reader has read is the matrix, if all of it is well; else there is none. -/
theorem lM_end {b : List UInt8} {m : M} {r : R} (h : lM ⟨b, false⟩ = (m, r)) : (r.bad = true → ∀ n, ¬ Of b n) ∧ (r.s ≠ [] → ∀ n, ¬ Of b n) ∧ (is m = false → ∀ n, ¬ Of b n) ∧ (r.bad = false → r.s = [] → is m = true → Of b m) := by
  have key : ∀ n, Of b n → m = n ∧ r = ⟨[], false⟩ := fun n hn => by
    have := lM_of hn
    rw [h] at this
    exact Prod.mk.inj this
  refine ⟨fun hb n hn => ?_, fun hs n hn => ?_, fun hi n hn => ?_, fun h1 h2 h3 => ?_⟩
  · rw [(key n hn).2] at hb; cases hb
  · rw [(key n hn).2] at hs; exact hs rfl
  · rw [(key n hn).1, hn.1] at hi; cases hi
  · have := ate_M ⟨b, false⟩
    rw [h] at this
    obtain ⟨_, e⟩ := this h1
    rw [h2, List.append_nil] at e
    exact ⟨h3, by rw [pr_is h3]; exact e.symm⟩
theorem lM_bad0 {r : R} (h : (lHead r).2.bad = true) : (lM r).2.bad = true := (ate_list rWin win ate_win _).bad ((ate_list lMes mes ate_mes _).bad ((ate_list one (fun x => [u8 x]) ate_one _).bad h))
theorem lM_bad1 {r : R} (h : (lM1 (lHead r)).2.bad = true) : (lM r).2.bad = true := (ate_list rWin win ate_win _).bad ((ate_list lMes mes ate_mes _).bad h)
theorem lM_bad2 {r : R} (h : (lM2 (lM1 (lHead r))).2.bad = true) : (lM r).2.bad = true := (ate_list rWin win ate_win _).bad h
end Go.Proofs.YtcdalfhmmipiaaaDoor.Pq
