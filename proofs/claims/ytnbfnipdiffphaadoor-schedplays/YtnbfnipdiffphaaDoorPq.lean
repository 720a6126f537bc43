/- Plain mathematics of a matrix as bytes: written, read, read back; nothing of the program is in it. -/
import Derived.Test.YtnbfnipdiffphaaDoorMx
namespace Go.Proofs.YtnbfnipdiffphaaDoor.Pq
open Mx
set_option linter.unusedVariables false
/-- A number's lowest byte. -/
def u8 (n : Int) : UInt8 := UInt8.ofNat (n % 256).toNat
def two (n : Int) : List UInt8 := [u8 (n / 256), u8 n]
theorem u8_nat {n : Int} (h0 : 0 ≤ n) (h1 : n < 256) : (u8 n).toNat = n.toNat := by
  unfold u8
  rw [UInt8.toNat_ofNat']
  rw [Int.emod_eq_of_lt h0 h1]
  omega
theorem u8_int {n : Int} (h0 : 0 ≤ n) (h1 : n < 256) : ((u8 n).toNat : Int) = n := by rw [u8_nat h0 h1]; omega
theorem u8_mod (n : Int) : ((u8 n).toNat : Int) = n % 256 := by
  unfold u8
  rw [UInt8.toNat_ofNat']
  omega
def mes (x : Msg) : List UInt8 := two x.id ++ [u8 x.owner, if x.event then 1 else 0]
def win (x : Win) : List UInt8 := u8 x.kind :: (two x.start ++ two x.fin ++ [u8 x.cycle, u8 x.rep, u8 x.msg])
/-- The fixed front. -/
def front (m : M) : List UInt8 := [79, u8 m.level, u8 m.nodes, u8 m.cycles] ++ two m.length ++ [u8 m.enable, u8 m.unit] ++ two m.init ++ two m.ref
def laid (m : M) : List UInt8 := front m ++ u8 m.masters.length :: m.masters.map u8 ++ u8 m.messages.length :: m.messages.flatMap mes ++ u8 m.windows.length :: m.windows.flatMap win
def pr (m : M) : List UInt8 := if is m then laid m else []
theorem mes_len (x : Msg) : (mes x).length = 4 := rfl
theorem win_len (x : Win) : (win x).length = 8 := rfl
theorem front_len (m : M) : (front m).length = 12 := rfl
theorem flat_len {α β : Type} (f : α → List β) (k : Nat) (hf : ∀ x, (f x).length = k) : ∀ l : List α, (l.flatMap f).length = l.length * k
  | [] => by simp
  | x :: l => by rw [List.flatMap_cons, List.length_append, hf, flat_len f k hf l, List.length_cons, Nat.succ_mul]; omega
theorem laid_len (m : M) : (laid m).length = 15 + m.masters.length + 4 * m.messages.length + 8 * m.windows.length := by
  unfold laid
  simp only [List.length_append, List.length_cons, List.length_map, front_len, flat_len mes 4 mes_len, flat_len win 8 win_len]
  omega
/-- What is known of a matrix that is one. -/
structure Num (m : M) : Prop where
  level : 0 ≤ m.level ∧ m.level < 256
  nodes : 0 ≤ m.nodes ∧ m.nodes < 256
  cycles : 0 ≤ m.cycles ∧ m.cycles < 256
  length : 0 ≤ m.length ∧ m.length < 65536
  enable : 0 ≤ m.enable ∧ m.enable < 256
  unit : 0 ≤ m.unit ∧ m.unit < 256
  init : 0 ≤ m.init ∧ m.init < 65536
  ref : m.ref < 65536
  l1 : m.masters.length ≤ 4
  l2 : m.messages.length ≤ 12
  l3 : m.windows.length ≤ 16
  pos : 1 ≤ m.masters.length
  masters : ∀ x ∈ m.masters, 0 ≤ x ∧ x < 256
  messages : ∀ x ∈ m.messages, x.id < 65536 ∧ 0 ≤ x.owner ∧ x.owner < 256
  windows : ∀ x ∈ m.windows, (0 ≤ x.kind ∧ x.kind < 256) ∧ (0 ≤ x.start ∧ x.start < 65536) ∧ (0 ≤ x.fin ∧ x.fin < 65536) ∧ (0 ≤ x.cycle ∧ x.cycle < 256) ∧ (0 ≤ x.rep ∧ x.rep < 256) ∧ (0 ≤ x.msg ∧ x.msg < 256)
theorem within_iff {n lo hi : Int} : within n lo hi = true ↔ lo ≤ n ∧ n ≤ hi := by unfold within; rw [Bool.and_eq_true, decide_eq_true_eq, decide_eq_true_eq]
theorem power_le {n most : Int} (h : power n most = true) : 1 ≤ n ∧ n ≤ most ∧ n ≤ 8 := by
  unfold power at h
  rw [Bool.and_eq_true, decide_eq_true_eq] at h
  obtain ⟨h1, h2⟩ := h
  simp only [Bool.or_eq_true, beq_iff_eq] at h1
  omega
theorem num_of {m : M} (h : is m = true) : Num m := by
  unfold is scal lens at h
  simp only [Bool.and_eq_true, within_iff, decide_eq_true_eq, List.all_eq_true, beq_iff_eq] at h
  obtain ⟨⟨⟨⟨s, l⟩, a⟩, b⟩, c⟩ := h
  obtain ⟨⟨⟨⟨⟨⟨s1, s2⟩, s3⟩, s4⟩, s5⟩, s6⟩, s7⟩ := s
  obtain ⟨⟨⟨⟨l1, l2⟩, l3⟩, l4⟩, l5⟩ := l
  have p := power_le s3
  refine ⟨by omega, by omega, by omega, by omega, by omega, by omega, by omega, by omega, by omega, by omega, by omega, by omega, fun x hx => ?_, fun x hx => ?_, fun x hx => ?_⟩
  · have := a x hx; omega
  · have := b x hx
    unfold msgOk at this
    simp only [Bool.and_eq_true, within_iff, decide_eq_true_eq] at this
    omega
  · have := c x hx
    unfold winOk at this
    simp only [Bool.and_eq_true, within_iff, decide_eq_true_eq] at this
    obtain ⟨⟨⟨⟨⟨⟨⟨w1, w2⟩, w3⟩, w4⟩, w5⟩, w6⟩, w7⟩, w8⟩ := this
    have p := power_le w5
    refine ⟨by omega, by omega, by omega, by omega, by omega, by omega⟩
/-- A reader: what is left, and whether it wanted more. -/
structure R where
  s : List UInt8
  bad : Bool
deriving DecidableEq
def one (r : R) : Int × R := match r.s with | [] => (0, ⟨[], true⟩) | x :: t => ((x.toNat : Int), ⟨t, r.bad⟩)
def twoR (r : R) : Int × R := (256 * (one r).1 + (one (one r).2).1, (one (one r).2).2)
/-- So many of a kind, unless it goes bad. -/
def many {α : Type} (f : R → α × R) : Nat → R → List α × R
  | 0, r => ([], r)
  | n + 1, r => if r.bad then ([], r) else let p := f r; let q := many f n p.2; (p.1 :: q.1, q.2)
def rMes (r : R) : Msg × R :=
  let a := twoR r; let b := one a.2; let c := one b.2
  (⟨(a.1 % 4294967296).toNat, b.1, c.1 == 1⟩, c.2)
def rWin (r : R) : Win × R :=
  let a := one r; let b := twoR a.2; let c := twoR b.2; let d := one c.2; let e := one d.2; let f := one e.2
  (⟨a.1, b.1, c.1, d.1, e.1, f.1⟩, f.2)
/-- The matrix that a reader reads behind the first byte. -/
def rM (r : R) : M × R :=
  let a := one r; let b := one a.2; let c := one b.2; let d := twoR c.2; let e := one d.2; let f := one e.2; let g := twoR f.2; let h := twoR g.2
  let n1 := one h.2; let l1 := many one n1.1.toNat n1.2
  let n2 := one l1.2; let l2 := many rMes n2.1.toNat n2.2
  let n3 := one l2.2; let l3 := many rWin n3.1.toNat n3.2
  (⟨a.1, b.1, c.1, d.1, e.1, f.1, g.1, (h.1 % 4294967296).toNat, l1.1, l2.1, l3.1⟩, l3.2)
theorem one_u8 {n : Int} (h : 0 ≤ n ∧ n < 256) (t : List UInt8) (b : Bool) : one ⟨u8 n :: t, b⟩ = (n, ⟨t, b⟩) := by
  unfold one
  simp only [u8_int h.1 h.2]
theorem twoR_two {n : Int} (h : 0 ≤ n ∧ n < 65536) (t : List UInt8) (b : Bool) : twoR ⟨two n ++ t, b⟩ = (n, ⟨t, b⟩) := by
  have e : one ⟨two n ++ t, b⟩ = (n / 256, ⟨u8 n :: t, b⟩) := one_u8 (n := n / 256) ⟨by omega, by omega⟩ _ _
  unfold twoR
  rw [e]
  show (256 * (n / 256) + ((u8 n).toNat : Int), _) = _
  rw [u8_mod]
  have : 256 * (n / 256) + n % 256 = n := by omega
  rw [this]
  rfl
theorem many_laid {α : Type} (f : R → α × R) (g : α → List UInt8) (l : List α) (h : ∀ x ∈ l, ∀ t, f ⟨g x ++ t, false⟩ = (x, ⟨t, false⟩)) (t : List UInt8) : many f l.length ⟨l.flatMap g ++ t, false⟩ = (l, ⟨t, false⟩) := by
  induction l with
  | nil => rfl
  | cons x l ih =>
    rw [List.length_cons, many, List.flatMap_cons, List.append_assoc]
    simp only [Bool.false_eq_true, if_false]
    rw [h x (List.mem_cons_self ..)]
    simp only
    rw [ih (fun y hy => h y (List.mem_cons_of_mem _ hy))]
theorem rMes_mes {x : Msg} (h : x.id < 65536 ∧ 0 ≤ x.owner ∧ x.owner < 256) (t : List UInt8) : rMes ⟨mes x ++ t, false⟩ = (x, ⟨t, false⟩) := by
  obtain ⟨h1, h2, h3⟩ := h
  unfold rMes mes
  simp only [List.append_assoc]
  rw [twoR_two (by omega)]
  simp only [List.cons_append, List.nil_append]
  rw [one_u8 ⟨h2, h3⟩]
  obtain ⟨i, o, e⟩ := x
  have hi : (((i : Int) % 4294967296).toNat) = i := by dsimp only at h1; omega
  cases e <;> simp only [hi] <;> rfl
theorem rWin_win {x : Win} (h : (0 ≤ x.kind ∧ x.kind < 256) ∧ (0 ≤ x.start ∧ x.start < 65536) ∧ (0 ≤ x.fin ∧ x.fin < 65536) ∧ (0 ≤ x.cycle ∧ x.cycle < 256) ∧ (0 ≤ x.rep ∧ x.rep < 256) ∧ (0 ≤ x.msg ∧ x.msg < 256)) (t : List UInt8) : rWin ⟨win x ++ t, false⟩ = (x, ⟨t, false⟩) := by
  obtain ⟨h1, h2, h3, h4, h5, h6⟩ := h
  unfold rWin win
  simp only [List.cons_append, List.append_assoc]
  rw [one_u8 h1]
  simp only
  rw [twoR_two h2]
  simp only
  rw [twoR_two h3]
  simp only [List.nil_append]
  rw [one_u8 h4]
  simp only
  rw [one_u8 h5]
  simp only
  rw [one_u8 h6]
theorem map_flat {α β : Type} (f : α → β) (l : List α) : l.map f = l.flatMap (fun x => [f x]) := by
  induction l with
  | nil => rfl
  | cons a l ih => rw [List.map_cons, List.flatMap_cons, ih]; rfl
/-- What was written is read as it was. -/
theorem read_laid {m : M} (h : Num m) (t : List UInt8) : rM ⟨(laid m).tail ++ t, false⟩ = (m, ⟨t, false⟩) := by
  have e : (laid m).tail ++ t = u8 m.level :: u8 m.nodes :: u8 m.cycles :: (two m.length ++ (u8 m.enable :: u8 m.unit :: (two m.init ++ (two m.ref ++ (u8 m.masters.length :: (m.masters.flatMap (fun x => [u8 x]) ++ (u8 m.messages.length :: (m.messages.flatMap mes ++ (u8 m.windows.length :: (m.windows.flatMap win ++ t)))))))))) := by
    unfold laid front
    rw [map_flat]
    simp only [List.cons_append, List.tail_cons, List.nil_append, List.append_assoc]
  rw [e]
  unfold rM
  have l1 := h.l1
  have l2 := h.l2
  have l3 := h.l3
  have hr := h.ref
  simp only [one_u8 h.level, one_u8 h.nodes, one_u8 h.cycles, twoR_two h.length, one_u8 h.enable, one_u8 h.unit, twoR_two h.init]
  rw [twoR_two (n := (m.ref : Int)) (by omega)]
  simp only
  rw [one_u8 (n := (m.masters.length : Int)) (by omega)]
  simp only [Int.toNat_natCast]
  rw [many_laid one (fun x => [u8 x]) m.masters (fun x hx t => one_u8 (h.masters x hx) t false)]
  simp only
  rw [one_u8 (n := (m.messages.length : Int)) (by omega)]
  simp only [Int.toNat_natCast]
  rw [many_laid rMes mes m.messages (fun x hx t => rMes_mes (h.messages x hx) t)]
  simp only
  rw [one_u8 (n := (m.windows.length : Int)) (by omega)]
  simp only [Int.toNat_natCast]
  rw [many_laid rWin win m.windows (fun x hx t => rWin_win (h.windows x hx) t)]
  have hi : (((m.ref : Int) % 4294967296).toNat) = m.ref := by omega
  simp only [hi]
theorem pr_is {m : M} (h : is m = true) : pr m = laid m := by unfold pr; rw [if_pos h]
theorem pr_no {m : M} (h : is m = false) : pr m = [] := by unfold pr; rw [h]; rfl
theorem laid_inj {m n : M} (hm : is m = true) (hn : is n = true) {t u : List UInt8} (h : laid m ++ t = laid n ++ u) : m = n ∧ t = u := by
  have e : (laid m).tail ++ t = (laid n).tail ++ u := by
    have h1 : ∀ x : M, laid x = 79 :: (laid x).tail := fun x => rfl
    rw [h1 m, h1 n, List.cons_append, List.cons_append] at h
    exact (List.cons.inj h).2
  have a := read_laid (num_of hm) t
  have b := read_laid (num_of hn) u
  rw [e, b] at a
  have := Prod.mk.inj a
  exact ⟨this.1.symm, (R.mk.inj this.2).1.symm⟩
theorem pr_inj {m n : M} (hm : is m = true) (hn : is n = true) (h : pr m = pr n) : m = n := by
  rw [pr_is hm, pr_is hn] at h
  have : laid m ++ [] = laid n ++ [] := by rw [List.append_nil, List.append_nil]; exact h
  exact (laid_inj hm hn this).1
theorem pr_ne {m : M} (h : is m = true) : pr m ≠ [] := by rw [pr_is h]; intro e; have := congrArg List.length e; rw [laid_len] at this; simp at this
theorem pr_nil_iff (m : M) : pr m = [] ↔ is m = false := by
  refine ⟨fun h => ?_, pr_no⟩
  cases hi : is m
  · rfl
  · exact absurd h (pr_ne hi)
theorem pr_len_le (m : M) : (pr m).length ≤ 195 := by
  cases h : is m
  · rw [pr_no h]; simp
  · have hn := num_of h
    rw [pr_is h, laid_len]
    have := hn.l1; have := hn.l2; have := hn.l3
    omega
/-- The bytes are those of m. -/
def Of (b : List UInt8) (m : M) : Prop := is m = true ∧ pr m = b
theorem Of.unique {b : List UInt8} {m n : M} (h : Of b m) (k : Of b n) : m = n := pr_inj h.1 k.1 (h.2.trans k.2.symm)
/-- No prefix of one's bytes, nor they with more behind, are another one's. -/
theorem cut_none {m n : M} (hm : is m = true) (k : Nat) (hk : k < (pr m).length) : ¬ Of ((pr m).take k) n := by
  rintro ⟨h1, h2⟩
  have e : laid n ++ (pr m).drop k = laid m ++ [] := by
    rw [← pr_is h1, h2, List.take_append_drop, List.append_nil, pr_is hm]
  have := (laid_inj h1 hm e).2
  have := congrArg List.length this
  rw [List.length_drop] at this
  simp at this
  omega
theorem more_none {m n : M} (hm : is m = true) (t : List UInt8) (ht : t ≠ []) : ¬ Of (pr m ++ t) n := by
  rintro ⟨h1, h2⟩
  have e : laid n ++ [] = laid m ++ t := by rw [List.append_nil, ← pr_is h1, h2, pr_is hm]
  exact ht (laid_inj h1 hm e).2.symm
end Go.Proofs.YtnbfnipdiffphaaDoor.Pq
