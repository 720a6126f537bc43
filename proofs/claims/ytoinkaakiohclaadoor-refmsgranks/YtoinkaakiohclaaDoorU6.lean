/- Plain mathematics of a frame's head: eight numbers, their widths, the bits that they make; nothing of the program is in it. -/
import Derived.Test.YtoinkaakiohclaaDoorU1
import Derived.Test.YtoinkaakiohclaaDoorTb
import Derived.Deep.QuietTactic
import Derived.BigQuiet
import Derived.Handy
import Derived.Test.YtoinkaakiohclaaDoorU2
import Derived.Deep.RegionWith
import Derived.Test.YtoinkaakiohclaaDoorU3
namespace Go.Proofs.YtoinkaakiohclaaDoor.Fm
open Go.Proofs.YtoinkaakiohclaaDoor.Bm
/-- how wide a field is -/
def wd (x : Bool) (k : Nat) : Nat := if x then [1, 11, 1, 1, 18, 1, 2, 4].getD k 0 else [1, 11, 1, 1, 0, 0, 1, 4].getD k 0
/-- a head: eight numbers -/
structure Hd where
  a0 : Nat
  a1 : Nat
  a2 : Nat
  a3 : Nat
  a4 : Nat
  a5 : Nat
  a6 : Nat
  a7 : Nat
def Hd.at (h : Hd) : Nat → Nat
  | 0 => h.a0 | 1 => h.a1 | 2 => h.a2 | 3 => h.a3 | 4 => h.a4 | 5 => h.a5 | 6 => h.a6 | 7 => h.a7 | _ => 0
def Hd.set (h : Hd) (k v : Nat) : Hd :=
  match k with
  | 0 => { h with a0 := v } | 1 => { h with a1 := v } | 2 => { h with a2 := v } | 3 => { h with a3 := v } | 4 => { h with a4 := v } | 5 => { h with a5 := v } | 6 => { h with a6 := v } | 7 => { h with a7 := v } | _ => h
def Hd.zero : Hd := ⟨0, 0, 0, 0, 0, 0, 0, 0⟩
def Hd.ok (h : Hd) : Prop := ∀ k, h.at k < 18446744073709551616
def Hd.ext (h : Hd) : Bool := h.a3 == 1
def Hd.rtr (h : Hd) : Bool := if h.ext then h.a5 == 1 else h.a2 == 1
def Hd.wrong (h : Hd) : Bool := h.a0 == 1 || (h.ext && h.a2 == 0)
def Hd.bytes (h : Hd) : Nat := if h.rtr then 0 else min h.a7 8
def Hd.id (h : Hd) : Nat := ((h.a1 * 2 ^ wd h.ext 4 % 18446744073709551616) ||| h.a4) % 4294967296
def Hd.row (h : Hd) (n : Nat) : List Bool := (List.range n).flatMap fun k => ofB (h.at k) (wd h.ext k)
def headOf (x : Bool) (n : Nat) (r : Bool) (d : List UInt8) : Hd := ⟨0, n / 2 ^ wd x 4, bv (x || r), bv x, n, bv r, 0, d.length⟩
/-- the head read field by field -/
def rd (bs : List Bool) : Nat → Nat → Nat → Hd → Hd × Nat × Nat
  | 0, _, p, h => (h, p, 0)
  | n + 1, k, p, h =>
    if bs.length < p + wd h.ext k then (Hd.zero, 0, 10)
    else if (h.set k (num (cut bs p (wd h.ext k)))).wrong then (Hd.zero, 0, 12)
    else rd bs n (k + 1) (p + wd h.ext k) (h.set k (num (cut bs p (wd h.ext k))))
def parseH (bs : List Bool) : (Bool × Nat × Bool × List UInt8) × Nat × Nat :=
  match rd bs 8 0 0 Hd.zero with
  | (h, p, e) => if e ≠ 0 then none_ e else if bs.length < p + 8 * h.bytes then none_ 10 else ((h.ext, h.id, h.rtr, Bm.bytes (cut bs p (8 * h.bytes))), p + 8 * h.bytes, 0)
theorem wd_le (x : Bool) (k : Nat) : wd x k ≤ 18 := by
  unfold wd
  match k with
  | 0 | 1 | 2 | 3 | 4 | 5 | 6 | 7 => cases x <;> decide
  | k + 8 => cases x <;> simp
theorem at_set_lt (h : Hd) (k v : Nat) (ok : h.ok) (hv : v < 18446744073709551616) : (h.set k v).ok := by
  intro j
  have h0 := ok 0; have h1 := ok 1; have h2 := ok 2; have h3 := ok 3; have h4 := ok 4; have h5 := ok 5; have h6 := ok 6; have h7 := ok 7
  match k with
  | 0 | 1 | 2 | 3 | 4 | 5 | 6 | 7 => match j with
    | 0 | 1 | 2 | 3 | 4 | 5 | 6 | 7 => first | exact hv | assumption
    | j + 8 => exact Nat.lt_of_lt_of_le (by decide : 0 < 1) (by decide)
  | k + 8 => exact ok j
theorem zero_ok : Hd.zero.ok := by
  intro k
  match k with
  | 0 | 1 | 2 | 3 | 4 | 5 | 6 | 7 => decide
  | k + 8 => exact Nat.lt_of_lt_of_le (by decide : 0 < 1) (by decide)
/-! the bits of a frame are its head's -/
theorem bv_bit (b : Bool) : ofB (bv b) 1 = [b] := by cases b <;> decide
theorem headOf_ext (x : Bool) (n : Nat) (r : Bool) (d : List UInt8) : (headOf x n r d).ext = x := by cases x <;> rfl
theorem row_arb (x : Bool) (n : Nat) (r : Bool) (d : List UInt8) : (headOf x n r d).row 6 = arb0 x n r := by
  unfold Hd.row
  rw [headOf_ext]
  cases x
  · show ofB 0 1 ++ (ofB (n / 1) 11 ++ (ofB (bv r) 1 ++ (ofB (bv false) 1 ++ (ofB n 0 ++ (ofB (bv r) 0 ++ []))))) = _
    rw [bv_bit, bv_bit, Nat.div_one]
    unfold arb0
    simp [ofB]
  · show ofB 0 1 ++ (ofB (n / 2 ^ 18) 11 ++ (ofB (bv true) 1 ++ (ofB (bv true) 1 ++ (ofB n 18 ++ (ofB (bv r) 1 ++ []))))) = _
    rw [bv_bit, bv_bit]
    unfold arb0
    simp only [if_true, List.append_nil]
    rfl
theorem row_body (x : Bool) (n : Nat) (r : Bool) (d : List UInt8) : (headOf x n r d).row 8 ++ fromB d = body0 x n r d := by
  have e : (headOf x n r d).row 8 = (headOf x n r d).row 6 ++ (ofB 0 (wd x 6) ++ ofB d.length 4) := by
    unfold Hd.row
    rw [headOf_ext, List.range_succ, List.range_succ, List.flatMap_append, List.flatMap_append]
    simp only [List.flatMap_cons, List.flatMap_nil, List.append_nil, List.append_assoc]
    cases x <;> rfl
  rw [e, row_arb]
  unfold body0
  cases x
  · simp only [List.append_assoc]; rfl
  · simp only [List.append_assoc]; rfl
theorem row_succ (h : Hd) (k : Nat) : h.row (k + 1) = h.row k ++ ofB (h.at k) (wd h.ext k) := by
  unfold Hd.row
  rw [List.range_succ, List.flatMap_append]
  simp
theorem length_row_le (h : Hd) (k : Nat) : (h.row k).length ≤ 18 * k := by
  induction k with
  | zero => simp [Hd.row]
  | succ k ih =>
    rw [row_succ, List.length_append, length_ofB]
    have := wd_le h.ext k
    omega
/-! a head that is read -/
theorem num_nil : num [] = 0 := rfl
theorem cut_zero (bs : List Bool) (i : Nat) : cut bs i 0 = [] := by simp [cut]
theorem num_cut1 (bs : List Bool) (i : Nat) (h : i < bs.length) : num (cut bs i 1) = bv (bs.getD i false) := by
  have e : cut bs i 1 = [bs[i]] := by
    unfold cut
    rw [List.drop_eq_getElem_cons h]
    rfl
  rw [e, List.getD_eq_getElem?_getD, List.getElem?_eq_getElem h]
  show num [bs[i]] = bv bs[i]
  cases bs[i] <;> rfl
theorem bv_one (b : Bool) : (bv b == 1) = b := by cases b <;> rfl
theorem bv_zero (b : Bool) : (bv b == 0) = !b := by cases b <;> rfl
end Go.Proofs.YtoinkaakiohclaaDoor.Fm
/- Plain mathematics of a frame's head: what is read field by field is what the document's own reading tells. -/
namespace Go.Proofs.YtoinkaakiohclaaDoor.Fm
open Go.Proofs.YtoinkaakiohclaaDoor.Bm
theorem rd_go (bs : List Bool) (n k p : Nat) (h : Hd) (v w : Nat) (hw : wd h.ext k = w) (hv : num (cut bs p w) = v) : rd bs (n + 1) k p h =
    if bs.length < p + w then (Hd.zero, 0, 10) else if (h.set k v).wrong then (Hd.zero, 0, 12) else rd bs n (k + 1) (p + w) (h.set k v) := by
  subst hw hv; rfl
theorem ext_bv (a b c : Nat) (x : Bool) (d e f g : Nat) : (Hd.mk a b c (bv x) d e f g).ext = x := bv_one x
theorem rd_front (bs : List Bool) : rd bs 8 0 0 Hd.zero = if bs.length < 1 then (Hd.zero, 0, 10) else if bs.getD 0 false then (Hd.zero, 0, 12) else if bs.length < 14 then (Hd.zero, 0, 10)
    else if bs.getD 13 false && !bs.getD 12 false then (Hd.zero, 0, 12) else rd bs 4 4 14 ⟨0, num (cut bs 1 11), bv (bs.getD 12 false), bv (bs.getD 13 false), 0, 0, 0, 0⟩ := by
  rw [rd_go bs 7 0 0 Hd.zero _ 1 rfl rfl]
  by_cases c1 : bs.length < 1
  · rw [if_pos c1, if_pos c1]
  rw [if_neg c1, if_neg c1, num_cut1 bs 0 (by omega)]
  cases q0 : bs.getD 0 false
  case true => rfl
  have e0 : ((Hd.zero.set 0 (bv false)).wrong) = false := rfl
  rw [e0, if_neg Bool.false_ne_true, if_neg Bool.false_ne_true]
  show rd bs 7 1 (0 + 1) ⟨0, 0, 0, 0, 0, 0, 0, 0⟩ = _
  rw [rd_go bs 6 1 (0 + 1) _ (num (cut bs 1 11)) 11 rfl rfl]
  by_cases c2 : bs.length < 0 + 1 + 11
  · rw [if_pos c2, if_pos (show bs.length < 14 by omega)]
  rw [if_neg c2]
  have e1 : ((Hd.mk 0 0 0 0 0 0 0 0).set 1 (num (cut bs 1 11))).wrong = false := rfl
  rw [e1, if_neg (by decide)]
  show rd bs 6 2 12 ⟨0, num (cut bs 1 11), 0, 0, 0, 0, 0, 0⟩ = _
  rw [rd_go bs 5 2 12 _ (num (cut bs 12 1)) 1 rfl rfl]
  by_cases c3 : bs.length < 12 + 1
  · rw [if_pos c3, if_pos (show bs.length < 14 by omega)]
  rw [if_neg c3, num_cut1 bs 12 (by omega)]
  have e2 : ((Hd.mk 0 (num (cut bs 1 11)) 0 0 0 0 0 0).set 2 (bv (bs.getD 12 false))).wrong = false := rfl
  rw [e2, if_neg (by decide)]
  show rd bs 5 3 13 ⟨0, num (cut bs 1 11), bv (bs.getD 12 false), 0, 0, 0, 0, 0⟩ = _
  rw [rd_go bs 4 3 13 _ (num (cut bs 13 1)) 1 rfl rfl]
  by_cases c4 : bs.length < 13 + 1
  · rw [if_pos c4, if_pos (show bs.length < 14 by omega)]
  rw [if_neg c4, if_neg (show ¬ bs.length < 14 by omega), num_cut1 bs 13 (by omega)]
  have e3 : ((Hd.mk 0 (num (cut bs 1 11)) (bv (bs.getD 12 false)) 0 0 0 0 0).set 3 (bv (bs.getD 13 false))).wrong = (bs.getD 13 false && !bs.getD 12 false) := by
    show (false || ((bv (bs.getD 13 false) == 1) && (bv (bs.getD 12 false) == 0))) = _
    rw [bv_one, bv_zero, Bool.false_or]
  rw [e3]
  rfl
theorem rd_std (bs : List Bool) (n : Nat) (r : Bool) : rd bs 4 4 14 ⟨0, n, bv r, bv false, 0, 0, 0, 0⟩ = if bs.length < 14 then (Hd.zero, 0, 10) else if bs.length < 15 then (Hd.zero, 0, 10) else if bs.length < 19 then (Hd.zero, 0, 10)
    else (⟨0, n, bv r, 0, 0, 0, num (cut bs 14 1), num (cut bs 15 4)⟩, 19, 0) := by
  rw [rd_go bs 3 4 14 _ (num (cut bs 14 0)) 0 rfl rfl]
  by_cases c1 : bs.length < 14
  · rw [if_pos c1, if_pos c1]
  rw [if_neg c1, if_neg c1, cut_zero]
  have e1 : ((Hd.mk 0 n (bv r) (bv false) 0 0 0 0).set 4 (num [])).wrong = false := by cases r <;> rfl
  rw [e1, if_neg (by decide)]
  show rd bs 3 5 14 ⟨0, n, bv r, 0, 0, 0, 0, 0⟩ = _
  rw [rd_go bs 2 5 14 _ (num (cut bs 14 0)) 0 rfl rfl, if_neg (by omega), cut_zero]
  have e2 : ((Hd.mk 0 n (bv r) 0 0 0 0 0).set 5 (num [])).wrong = false := by cases r <;> rfl
  rw [e2, if_neg (by decide)]
  show rd bs 2 6 14 ⟨0, n, bv r, 0, 0, 0, 0, 0⟩ = _
  rw [rd_go bs 1 6 14 _ (num (cut bs 14 1)) 1 rfl rfl]
  by_cases c2 : bs.length < 15
  · rw [if_pos c2, if_pos c2]
  rw [if_neg c2, if_neg c2]
  have e3 : ((Hd.mk 0 n (bv r) 0 0 0 0 0).set 6 (num (cut bs 14 1))).wrong = false := by cases r <;> rfl
  rw [e3, if_neg (by decide)]
  show rd bs 1 7 15 ⟨0, n, bv r, 0, 0, 0, num (cut bs 14 1), 0⟩ = _
  rw [rd_go bs 0 7 15 _ (num (cut bs 15 4)) 4 rfl rfl]
  by_cases c3 : bs.length < 19
  · rw [if_pos c3, if_pos c3]
  rw [if_neg c3, if_neg c3]
  have e4 : ((Hd.mk 0 n (bv r) 0 0 0 (num (cut bs 14 1)) 0).set 7 (num (cut bs 15 4))).wrong = false := by cases r <;> rfl
  rw [e4, if_neg (by decide)]
  rfl
theorem rd_ext (bs : List Bool) (n : Nat) : rd bs 4 4 14 ⟨0, n, bv true, bv true, 0, 0, 0, 0⟩ = if bs.length < 33 then (Hd.zero, 0, 10) else if bs.length < 39 then (Hd.zero, 0, 10)
    else (⟨0, n, 1, 1, num (cut bs 14 18), bv (bs.getD 32 false), num (cut bs 33 2), num (cut bs 35 4)⟩, 39, 0) := by
  rw [rd_go bs 3 4 14 _ (num (cut bs 14 18)) 18 rfl rfl]
  by_cases c1 : bs.length < 32
  · rw [if_pos (show bs.length < 14 + 18 by omega), if_pos (show bs.length < 33 by omega)]
  rw [if_neg (show ¬ bs.length < 14 + 18 by omega)]
  have e1 : ((Hd.mk 0 n (bv true) (bv true) 0 0 0 0).set 4 (num (cut bs 14 18))).wrong = false := rfl
  rw [e1, if_neg (by decide)]
  show rd bs 3 5 32 ⟨0, n, 1, 1, num (cut bs 14 18), 0, 0, 0⟩ = _
  rw [rd_go bs 2 5 32 _ (num (cut bs 32 1)) 1 rfl rfl]
  by_cases c2 : bs.length < 33
  · rw [if_pos c2, if_pos c2]
  rw [if_neg c2, if_neg c2, num_cut1 bs 32 (by omega)]
  have e2 : ((Hd.mk 0 n 1 1 (num (cut bs 14 18)) 0 0 0).set 5 (bv (bs.getD 32 false))).wrong = false := rfl
  rw [e2, if_neg (by decide)]
  show rd bs 2 6 33 ⟨0, n, 1, 1, num (cut bs 14 18), bv (bs.getD 32 false), 0, 0⟩ = _
  rw [rd_go bs 1 6 33 _ (num (cut bs 33 2)) 2 rfl rfl]
  by_cases c3 : bs.length < 35
  · rw [if_pos (show bs.length < 33 + 2 by omega), if_pos (show bs.length < 39 by omega)]
  rw [if_neg (show ¬ bs.length < 33 + 2 by omega)]
  have e3 : ((Hd.mk 0 n 1 1 (num (cut bs 14 18)) (bv (bs.getD 32 false)) 0 0).set 6 (num (cut bs 33 2))).wrong = false := rfl
  rw [e3, if_neg (by decide)]
  show rd bs 1 7 35 ⟨0, n, 1, 1, num (cut bs 14 18), bv (bs.getD 32 false), num (cut bs 33 2), 0⟩ = _
  rw [rd_go bs 0 7 35 _ (num (cut bs 35 4)) 4 rfl rfl]
  by_cases c4 : bs.length < 39
  · rw [if_pos c4, if_pos c4]
  rw [if_neg c4, if_neg c4]
  have e4 : ((Hd.mk 0 n 1 1 (num (cut bs 14 18)) (bv (bs.getD 32 false)) (num (cut bs 33 2)) 0).set 7 (num (cut bs 35 4))).wrong = false := rfl
  rw [e4, if_neg (by decide)]
  rfl
def tellH (bs : List Bool) : Hd × Nat × Nat → (Bool × Nat × Bool × List UInt8) × Nat × Nat
  | (h, p, e) => if e ≠ 0 then none_ e else if bs.length < p + 8 * h.bytes then none_ 10 else ((h.ext, h.id, h.rtr, Bm.bytes (cut bs p (8 * h.bytes))), p + 8 * h.bytes, 0)
theorem tell_none (bs : List Bool) (e : Nat) (h : e ≠ 0) : tellH bs (Hd.zero, 0, e) = none_ e := by unfold tellH; simp only; rw [if_pos h]
theorem id_std (n : Nat) (r : Bool) (b c : Nat) (h : n < 2048) : (Hd.mk 0 n (bv r) 0 0 0 b c).id = n := by
  show ((n * 2 ^ 0 % 18446744073709551616) ||| 0) % 4294967296 = n
  rw [Nat.or_zero]
  omega
theorem id_ext (n m : Nat) (r b c : Nat) (h : n < 2048) (hm : m < 262144) : (Hd.mk 0 n 1 1 m r b c).id = n * 262144 + m := by
  show ((n * 2 ^ 18 % 18446744073709551616) ||| m) % 4294967296 = n * 262144 + m
  have e : n * 2 ^ 18 % 18446744073709551616 = 2 ^ 18 * n := by omega
  rw [e, ← Nat.two_pow_add_eq_or_of_lt (i := 18) (by simpa using hm)]
  omega
theorem parseH_eq (bs : List Bool) : parseH bs = parse bs := by
  show tellH bs (rd bs 8 0 0 Hd.zero) = _
  rw [rd_front]
  unfold parse
  by_cases c1 : bs.length < 1
  · rw [if_pos c1, if_pos c1, tell_none _ _ (by decide)]
  rw [if_neg c1, if_neg c1]
  cases q0 : bs.getD 0 false
  case true => rw [if_pos (rfl : true = true), if_pos (rfl : true = true), tell_none _ _ (by decide)]
  rw [if_neg Bool.false_ne_true, if_neg Bool.false_ne_true]
  by_cases c2 : bs.length < 14
  · rw [if_pos c2, if_pos c2, tell_none _ _ (by decide)]
  rw [if_neg c2, if_neg c2]
  have l1 := num_cut bs 1 11
  have l2 := num_cut bs 14 18
  cases q13 : bs.getD 13 false
  · rw [Bool.false_and, if_neg Bool.false_ne_true, if_neg Bool.false_ne_true, rd_std]
    unfold parseL
    rw [if_neg c2]
    by_cases c3 : bs.length < 15
    · rw [if_pos c3, if_pos (by omega), tell_none _ _ (by decide)]
    rw [if_neg c3]
    by_cases c4 : bs.length < 19
    · rw [if_pos c4, if_pos (by omega), tell_none _ _ (by decide)]
    rw [if_neg c4, if_neg (by omega)]
    unfold tellH parseD
    simp only
    rw [if_neg (by decide)]
    have hr : (Hd.mk 0 (num (cut bs 1 11)) (bv (bs.getD 12 false)) 0 0 0 (num (cut bs 14 1)) (num (cut bs 15 4))).rtr = bs.getD 12 false := by
      show (bv (bs.getD 12 false) == 1) = _
      exact bv_one _
    have hb : (Hd.mk 0 (num (cut bs 1 11)) (bv (bs.getD 12 false)) 0 0 0 (num (cut bs 14 1)) (num (cut bs 15 4))).bytes = if bs.getD 12 false then 0 else min (num (cut bs 15 4)) 8 := by
      unfold Hd.bytes
      rw [hr]
    rw [hb, hr, id_std _ _ _ _ (by simpa using l1)]
    rfl
  · rw [Bool.true_and, if_pos (rfl : true = true)]
    cases q12 : bs.getD 12 false
    · rw [Bool.not_false, if_pos (rfl : true = true), if_neg Bool.false_ne_true, tell_none _ _ (by decide)]
    rw [Bool.not_true, if_neg Bool.false_ne_true, if_pos (rfl : true = true), rd_ext]
    by_cases c3 : bs.length < 33
    · rw [if_pos c3, if_pos c3, tell_none _ _ (by decide)]
    rw [if_neg c3, if_neg c3]
    unfold parseL
    by_cases c4 : bs.length < 39
    · rw [if_pos c4, if_pos (by omega), tell_none _ _ (by decide)]
    rw [if_neg c4, if_neg (by omega)]
    unfold tellH parseD
    simp only
    rw [if_neg (by decide)]
    have hr : (Hd.mk 0 (num (cut bs 1 11)) 1 1 (num (cut bs 14 18)) (bv (bs.getD 32 false)) (num (cut bs 33 2)) (num (cut bs 35 4))).rtr = bs.getD 32 false := by
      show (bv (bs.getD 32 false) == 1) = _
      exact bv_one _
    have hb : (Hd.mk 0 (num (cut bs 1 11)) 1 1 (num (cut bs 14 18)) (bv (bs.getD 32 false)) (num (cut bs 33 2)) (num (cut bs 35 4))).bytes = if bs.getD 32 false then 0 else min (num (cut bs 35 4)) 8 := by
      unfold Hd.bytes
      rw [hr]
    rw [hb, hr, id_ext _ _ _ _ _ (by simpa using l1) (by simpa using l2)]
    rfl
end Go.Proofs.YtoinkaakiohclaaDoor.Fm
/- What the small functions of package frame answer (widths, flags, what a head tells), over the program's own text. -/
namespace Go.Proofs.YtoinkaakiohclaaDoor
open Go.RowKit
def hcs (h : Fm.Hd) : Array Value := #[.int .u64 h.a0, .int .u64 h.a1, .int .u64 h.a2, .int .u64 h.a3, .int .u64 h.a4, .int .u64 h.a5, .int .u64 h.a6, .int .u64 h.a7]
set_option maxHeartbeats 400000 in
theorem width_any (k : Nat) (hk : k < 8) (x : Bool) (w : World) (hT : Tab w) (y : Int) (hy : y = (k : Int)) :
    Calls Tryd.prog 51 #[.int .i64 y, .bool x] w fun e w' => e = .returned (.int .i64 (Fm.wd x k)) ∧ w' = w := by
  subst hy
  have hall := hT.2
  match k, hk with
  | 0, _ =>
    obtain ⟨c0, c1⟩ := hall 0 _ rfl
    clear hall
    simp only [Nat.mul_zero, Nat.zero_add] at c0 c1
    cases x
    all_goals
      go_enter Tryd.func51, Tryd.ntmps51
      go_wp2
      go_ret
      exact ⟨rfl, rfl⟩
  | 1, _ =>
    obtain ⟨c0, c1⟩ := hall 1 _ rfl
    clear hall
    simp only [Nat.reduceMul, Nat.reduceAdd] at c0 c1
    cases x
    all_goals
      go_enter Tryd.func51, Tryd.ntmps51
      go_wp2
      go_ret
      exact ⟨rfl, rfl⟩
  | 2, _ =>
    obtain ⟨c0, c1⟩ := hall 2 _ rfl
    clear hall
    simp only [Nat.reduceMul, Nat.reduceAdd] at c0 c1
    cases x
    all_goals
      go_enter Tryd.func51, Tryd.ntmps51
      go_wp2
      go_ret
      exact ⟨rfl, rfl⟩
  | 3, _ =>
    obtain ⟨c0, c1⟩ := hall 3 _ rfl
    clear hall
    simp only [Nat.reduceMul, Nat.reduceAdd] at c0 c1
    cases x
    all_goals
      go_enter Tryd.func51, Tryd.ntmps51
      go_wp2
      go_ret
      exact ⟨rfl, rfl⟩
  | 4, _ =>
    obtain ⟨c0, c1⟩ := hall 4 _ rfl
    clear hall
    simp only [Nat.reduceMul, Nat.reduceAdd] at c0 c1
    cases x
    all_goals
      go_enter Tryd.func51, Tryd.ntmps51
      go_wp2
      go_ret
      exact ⟨rfl, rfl⟩
  | 5, _ =>
    obtain ⟨c0, c1⟩ := hall 5 _ rfl
    clear hall
    simp only [Nat.reduceMul, Nat.reduceAdd] at c0 c1
    cases x
    all_goals
      go_enter Tryd.func51, Tryd.ntmps51
      go_wp2
      go_ret
      exact ⟨rfl, rfl⟩
  | 6, _ =>
    obtain ⟨c0, c1⟩ := hall 6 _ rfl
    clear hall
    simp only [Nat.reduceMul, Nat.reduceAdd] at c0 c1
    cases x
    all_goals
      go_enter Tryd.func51, Tryd.ntmps51
      go_wp2
      go_ret
      exact ⟨rfl, rfl⟩
  | 7, _ =>
    obtain ⟨c0, c1⟩ := hall 7 _ rfl
    clear hall
    simp only [Nat.reduceMul, Nat.reduceAdd] at c0 c1
    cases x
    all_goals
      go_enter Tryd.func51, Tryd.ntmps51
      go_wp2
      go_ret
      exact ⟨rfl, rfl⟩
theorem idWidth_any (x : Bool) (w : World) (hT : Tab w) :
    Calls Tryd.prog 39 #[.bool x] w fun e w' => e = .returned (.int .i64 (if x then 29 else 11)) ∧ w' = w := by
  have h1 : Hid (∀ w, Tab w → Calls Tryd.prog 51 #[.int .i64 1, .bool x] w fun e w' => e = .returned (.int .i64 11) ∧ w' = w) := fun w hT => by
    have := width_any 1 (by decide) x w hT 1 rfl
    cases x <;> exact this
  cases x
  · have h4 : Hid (∀ w, Tab w → Calls Tryd.prog 51 #[.int .i64 4, .bool false] w fun e w' => e = .returned (.int .i64 0) ∧ w' = w) := fun w hT => width_any 4 (by decide) false w hT 4 rfl
    go_enter Tryd.func39, Tryd.ntmps39
    go_wp2_with fail
    refine (h1.out _ hT).mono ?_; rintro e w1 ⟨rfl, rfl⟩
    go_wp2_with fail
    refine (h4.out _ hT).mono ?_; rintro e w2 ⟨rfl, rfl⟩
    go_wp2
    go_ret
    exact ⟨rfl, rfl⟩
  · have h4 : Hid (∀ w, Tab w → Calls Tryd.prog 51 #[.int .i64 4, .bool true] w fun e w' => e = .returned (.int .i64 18) ∧ w' = w) := fun w hT => width_any 4 (by decide) true w hT 4 rfl
    go_enter Tryd.func39, Tryd.ntmps39
    go_wp2_with fail
    refine (h1.out _ hT).mono ?_; rintro e w1 ⟨rfl, rfl⟩
    go_wp2_with fail
    refine (h4.out _ hT).mono ?_; rintro e w2 ⟨rfl, rfl⟩
    go_wp2
    go_ret
    exact ⟨rfl, rfl⟩
theorem flag_any (b : Bool) (w : World) : Calls Tryd.prog 52 #[.bool b] w fun e w' => e = .returned (.int .u64 (Bm.bv b)) ∧ w' = w := by
  cases b
  all_goals
    go_enter Tryd.func52, Tryd.ntmps52
    go_wp2
    go_ret
    exact ⟨rfl, rfl⟩
theorem eq1_nat (n : Nat) : ((n : Int) == 1) = (n == 1) := by rw [Bool.eq_iff_iff]; simp; omega
theorem eq0_nat (n : Nat) : ((n : Int) == 0) = (n == 0) := by rw [Bool.eq_iff_iff]; simp
theorem ext_any (h : Fm.Hd) (w : World) : Calls Tryd.prog 54 #[.agg (hcs h)] w fun e w' => e = .returned (.bool h.ext) ∧ Below w.heap.size w w' := by
  have HE : Hid (h.ext = ((h.a3 : Int) == 1)) := by show _ = _; rw [eq1_nat]; rfl
  unfold hcs
  generalize h.ext = b at *
  go_enter Tryd.func54, Tryd.ntmps54
  go_wp2
  go_ret
  exact ⟨ret_bool HE.out.symm, (Below.refl _ _).alloc (Nat.le_refl _) _⟩
end Go.Proofs.YtoinkaakiohclaaDoor
/- What a head tells: rtr, wrong, bytes, frame, over the program's own text. -/
namespace Go.Proofs.YtoinkaakiohclaaDoor
open Go.RowKit
theorem hcell {w w1 : World} {t : TypeId} (h : Fm.Hd) (hb : Below (w.alloc (.cells (hcs h) t)).heap.size (w.alloc (.cells (hcs h) t)) w1) (k : Nat) (v : Value) (hv : (hcs h)[k]? = some v) : w1.cell? ⟨w.heap.size, k, none⟩ = some v :=
  (hb.cell (p := ⟨w.heap.size, k, none⟩) (by simp)).trans (by rw [cell_of_row _ _ _ _ _ _ (heap_alloc_new _ _)]; exact hv)
end Go.Proofs.YtoinkaakiohclaaDoor
/- What a head tells: the frame, over the program's own text. -/
namespace Go.Proofs.YtoinkaakiohclaaDoor
open Go.RowKit
theorem id_walk (h : Fm.Hd) (ok : h.ok) (x : Bool) (hx : h.ext = x) : bits .or .u64 (IntKind.u64.wrap ((h.a1 : Int) * 2 ^ Fm.wd x 4)) (h.a4 : Int) % 4294967296 = (h.id : Int) := by
  have h4 : h.a4 < 18446744073709551616 := ok 4
  rw [IntKind.wrap_u64, show ((h.a1 : Int) * 2 ^ Fm.wd x 4) % 18446744073709551616 = ((h.a1 * 2 ^ Fm.wd x 4 % 18446744073709551616 : Nat) : Int) from by simp, u64_or_nat _ _ (Nat.mod_lt _ (by decide)) h4]
  unfold Fm.Hd.id
  rw [hx]
  simp
theorem fcell {w w1 : World} (h : Fm.Hd) (o : Obj) (hb : Below (w.heap.size + 1 + 1) ((w.alloc (Obj.cells (hcs h) 71)).alloc o) w1) (k : Nat) (v : Value) (hv : (hcs h)[k]? = some v) : w1.cell? ⟨w.heap.size, k, none⟩ = some v :=
  (hb.cell (p := ⟨w.heap.size, k, none⟩) (by simp; omega)).trans (by rw [cell_of_row _ _ _ _ _ _ (heap_alloc2_old _ _ _)]; exact hv)
end Go.Proofs.YtoinkaakiohclaaDoor
/- What headOf of package frame answers, over the program's own text. -/
namespace Go.Proofs.YtoinkaakiohclaaDoor
open Go.RowKit
set_option maxRecDepth 100000 in
set_option maxHeartbeats 4000000 in
theorem headOf_tf (n : Nat) (d : ByteArray) (w : World) (hT : Tab w) (hn : n < 4294967296) (h8 : d.size ≤ 8) :
    Calls Tryd.prog 40 #[.agg #[.bool true, .int .u32 n, .bool false, .string d]] w fun e w' => e = .returned (.agg (hcs (Fm.headOf true n false d.data.toList))) ∧ Below w.heap.size w w' := by
  have HW : Hid (∀ w, Tab w → Calls Tryd.prog 51 #[.int .i64 4, .bool true] w fun e w' => e = .returned (.int .i64 18) ∧ w' = w) := fun w hT => width_any 4 (by decide) true w hT 4 rfl
  have HT : Hid (∀ w', Below w.heap.size w w' → Tab w') := fun w' hb => hT.below hb
  have HE : Hid (hcs (Fm.headOf true n false d.data.toList) = #[.int .u64 0, .int .u64 ((n : Int) / 262144), .int .u64 1, .int .u64 1, .int .u64 n, .int .u64 0, .int .u64 0, .int .u64 (d.size : Int)]) := by
    show _ = _
    have e1 : d.data.toList.length = d.size := by simp
    have e2 : ((n / 2 ^ Fm.wd true 4 : Nat) : Int) = (n : Int) / 262144 := by simp [Fm.wd]
    unfold hcs Fm.headOf
    simp only [e1, e2]
    rfl
  generalize hcs (Fm.headOf true n false d.data.toList) = R at *
  clear hT
  go_enter Tryd.func40, Tryd.ntmps40
  go_wp2_with fail
  refine Lw.region_tail 24 (by kernel_rfl) (by kernel_rfl) ?_
  intro w1 hw1
  have hb1 : Below w.heap.size w w1 := hw1 ▸ (((Below.refl _ _).alloc (Nat.le_refl _) _).alloc (by simp) _).drew
  have HT1 : Hid (Tab w1) := HT.out _ hb1
  have HG : Hid (w1.heap[w.heap.size]? = some (.cells #[.bool true, .int .u32 n, .bool false, .string d] 30 (0, 0))) := by subst hw1; exact heap_alloc2_old _ _ _
  have HV : Hid (w1.heap[w.heap.size + 1]? = some (.cells (hcs Fm.Hd.zero) 71 (0, 0))) := by subst hw1; exact heap_alloc2_new _ _ _
  clear hw1 HT
  obtain ⟨y0, y1, y2, y3, _, _, _, _⟩ := four_cells HG.out
  obtain ⟨x0, x1, x2, x3, x4, x5, x6, x7, z0, z1, z2, z3, z4, z5, z6, z7⟩ := eight_cells HV.out
  simp only [List.take_succ_cons, List.take_zero, List.drop_succ_cons, List.drop_zero]
  repeat (first | still_step | still_call (HW.out _ HT1.out) | still_call (flag_any _ _))
  refine wpStill_nil ?_
  go_wp2
  exact bodyPost_ret (v := .agg #[.int .u64 0, .int .u64 ((n : Int) / 262144), .int .u64 1, .int .u64 1, .int .u64 n, .int .u64 0, .int .u64 0, .int .u64 (d.size : Int)])
    (by simp [results, Tryd.results40, go_sem, Bm.bv, x0, x1, x2, x3, x4, x5, x6, x7]; try rfl) rfl ⟨by rw [HE.out], (((((((hb1.setCell (Nat.le_succ _) _).setCell (Nat.le_succ _) _).setCell (Nat.le_succ _) _).setCell (Nat.le_succ _) _).setCell (Nat.le_succ _) _).setCell (Nat.le_succ _) _).setCell (Nat.le_succ _) _).setCell (Nat.le_succ _) _⟩
set_option maxRecDepth 100000 in
set_option maxHeartbeats 4000000 in
theorem headOf_tt (n : Nat) (d : ByteArray) (w : World) (hT : Tab w) (hn : n < 4294967296) (h8 : d.size ≤ 8) :
    Calls Tryd.prog 40 #[.agg #[.bool true, .int .u32 n, .bool true, .string d]] w fun e w' => e = .returned (.agg (hcs (Fm.headOf true n true d.data.toList))) ∧ Below w.heap.size w w' := by
  have HW : Hid (∀ w, Tab w → Calls Tryd.prog 51 #[.int .i64 4, .bool true] w fun e w' => e = .returned (.int .i64 18) ∧ w' = w) := fun w hT => width_any 4 (by decide) true w hT 4 rfl
  have HT : Hid (∀ w', Below w.heap.size w w' → Tab w') := fun w' hb => hT.below hb
  have HE : Hid (hcs (Fm.headOf true n true d.data.toList) = #[.int .u64 0, .int .u64 ((n : Int) / 262144), .int .u64 1, .int .u64 1, .int .u64 n, .int .u64 1, .int .u64 0, .int .u64 (d.size : Int)]) := by
    show _ = _
    have e1 : d.data.toList.length = d.size := by simp
    have e2 : ((n / 2 ^ Fm.wd true 4 : Nat) : Int) = (n : Int) / 262144 := by simp [Fm.wd]
    unfold hcs Fm.headOf
    simp only [e1, e2]
    rfl
  generalize hcs (Fm.headOf true n true d.data.toList) = R at *
  clear hT
  go_enter Tryd.func40, Tryd.ntmps40
  go_wp2_with fail
  refine Lw.region_tail 24 (by kernel_rfl) (by kernel_rfl) ?_
  intro w1 hw1
  have hb1 : Below w.heap.size w w1 := hw1 ▸ (((Below.refl _ _).alloc (Nat.le_refl _) _).alloc (by simp) _).drew
  have HT1 : Hid (Tab w1) := HT.out _ hb1
  have HG : Hid (w1.heap[w.heap.size]? = some (.cells #[.bool true, .int .u32 n, .bool true, .string d] 30 (0, 0))) := by subst hw1; exact heap_alloc2_old _ _ _
  have HV : Hid (w1.heap[w.heap.size + 1]? = some (.cells (hcs Fm.Hd.zero) 71 (0, 0))) := by subst hw1; exact heap_alloc2_new _ _ _
  clear hw1 HT
  obtain ⟨y0, y1, y2, y3, _, _, _, _⟩ := four_cells HG.out
  obtain ⟨x0, x1, x2, x3, x4, x5, x6, x7, z0, z1, z2, z3, z4, z5, z6, z7⟩ := eight_cells HV.out
  simp only [List.take_succ_cons, List.take_zero, List.drop_succ_cons, List.drop_zero]
  repeat (first | still_step | still_call (HW.out _ HT1.out) | still_call (flag_any _ _))
  refine wpStill_nil ?_
  go_wp2
  exact bodyPost_ret (v := .agg #[.int .u64 0, .int .u64 ((n : Int) / 262144), .int .u64 1, .int .u64 1, .int .u64 n, .int .u64 1, .int .u64 0, .int .u64 (d.size : Int)])
    (by simp [results, Tryd.results40, go_sem, Bm.bv, x0, x1, x2, x3, x4, x5, x6, x7]; try rfl) rfl ⟨by rw [HE.out], (((((((hb1.setCell (Nat.le_succ _) _).setCell (Nat.le_succ _) _).setCell (Nat.le_succ _) _).setCell (Nat.le_succ _) _).setCell (Nat.le_succ _) _).setCell (Nat.le_succ _) _).setCell (Nat.le_succ _) _).setCell (Nat.le_succ _) _⟩
set_option maxRecDepth 100000 in
set_option maxHeartbeats 4000000 in
theorem headOf_ff (n : Nat) (d : ByteArray) (w : World) (hT : Tab w) (hn : n < 4294967296) (h8 : d.size ≤ 8) :
    Calls Tryd.prog 40 #[.agg #[.bool false, .int .u32 n, .bool false, .string d]] w fun e w' => e = .returned (.agg (hcs (Fm.headOf false n false d.data.toList))) ∧ Below w.heap.size w w' := by
  have HW : Hid (∀ w, Tab w → Calls Tryd.prog 51 #[.int .i64 4, .bool false] w fun e w' => e = .returned (.int .i64 0) ∧ w' = w) := fun w hT => width_any 4 (by decide) false w hT 4 rfl
  have HT : Hid (∀ w', Below w.heap.size w w' → Tab w') := fun w' hb => hT.below hb
  have HE : Hid (hcs (Fm.headOf false n false d.data.toList) = #[.int .u64 0, .int .u64 ((n : Int)), .int .u64 0, .int .u64 0, .int .u64 n, .int .u64 0, .int .u64 0, .int .u64 (d.size : Int)]) := by
    show _ = _
    have e1 : d.data.toList.length = d.size := by simp
    have e2 : ((n / 2 ^ Fm.wd false 4 : Nat) : Int) = (n : Int) := by show ((n / 1 : Nat) : Int) = _; rw [Nat.div_one]
    unfold hcs Fm.headOf
    simp only [e1, e2]
    rfl
  generalize hcs (Fm.headOf false n false d.data.toList) = R at *
  clear hT
  go_enter Tryd.func40, Tryd.ntmps40
  go_wp2_with fail
  refine Lw.region_tail 24 (by kernel_rfl) (by kernel_rfl) ?_
  intro w1 hw1
  have hb1 : Below w.heap.size w w1 := hw1 ▸ (((Below.refl _ _).alloc (Nat.le_refl _) _).alloc (by simp) _).drew
  have HT1 : Hid (Tab w1) := HT.out _ hb1
  have HG : Hid (w1.heap[w.heap.size]? = some (.cells #[.bool false, .int .u32 n, .bool false, .string d] 30 (0, 0))) := by subst hw1; exact heap_alloc2_old _ _ _
  have HV : Hid (w1.heap[w.heap.size + 1]? = some (.cells (hcs Fm.Hd.zero) 71 (0, 0))) := by subst hw1; exact heap_alloc2_new _ _ _
  clear hw1 HT
  obtain ⟨y0, y1, y2, y3, _, _, _, _⟩ := four_cells HG.out
  obtain ⟨x0, x1, x2, x3, x4, x5, x6, x7, z0, z1, z2, z3, z4, z5, z6, z7⟩ := eight_cells HV.out
  simp only [List.take_succ_cons, List.take_zero, List.drop_succ_cons, List.drop_zero]
  repeat (first | still_step | still_call (HW.out _ HT1.out) | still_call (flag_any _ _))
  refine wpStill_nil ?_
  go_wp2
  exact bodyPost_ret (v := .agg #[.int .u64 0, .int .u64 ((n : Int)), .int .u64 0, .int .u64 0, .int .u64 n, .int .u64 0, .int .u64 0, .int .u64 (d.size : Int)])
    (by simp [results, Tryd.results40, go_sem, Bm.bv, x0, x1, x2, x3, x4, x5, x6, x7]; try rfl) rfl ⟨by rw [HE.out], (((((((hb1.setCell (Nat.le_succ _) _).setCell (Nat.le_succ _) _).setCell (Nat.le_succ _) _).setCell (Nat.le_succ _) _).setCell (Nat.le_succ _) _).setCell (Nat.le_succ _) _).setCell (Nat.le_succ _) _).setCell (Nat.le_succ _) _⟩
set_option maxRecDepth 100000 in
set_option maxHeartbeats 4000000 in
theorem headOf_ft (n : Nat) (d : ByteArray) (w : World) (hT : Tab w) (hn : n < 4294967296) (h8 : d.size ≤ 8) :
    Calls Tryd.prog 40 #[.agg #[.bool false, .int .u32 n, .bool true, .string d]] w fun e w' => e = .returned (.agg (hcs (Fm.headOf false n true d.data.toList))) ∧ Below w.heap.size w w' := by
  have HW : Hid (∀ w, Tab w → Calls Tryd.prog 51 #[.int .i64 4, .bool false] w fun e w' => e = .returned (.int .i64 0) ∧ w' = w) := fun w hT => width_any 4 (by decide) false w hT 4 rfl
  have HT : Hid (∀ w', Below w.heap.size w w' → Tab w') := fun w' hb => hT.below hb
  have HE : Hid (hcs (Fm.headOf false n true d.data.toList) = #[.int .u64 0, .int .u64 ((n : Int)), .int .u64 1, .int .u64 0, .int .u64 n, .int .u64 1, .int .u64 0, .int .u64 (d.size : Int)]) := by
    show _ = _
    have e1 : d.data.toList.length = d.size := by simp
    have e2 : ((n / 2 ^ Fm.wd false 4 : Nat) : Int) = (n : Int) := by show ((n / 1 : Nat) : Int) = _; rw [Nat.div_one]
    unfold hcs Fm.headOf
    simp only [e1, e2]
    rfl
  generalize hcs (Fm.headOf false n true d.data.toList) = R at *
  clear hT
  go_enter Tryd.func40, Tryd.ntmps40
  go_wp2_with fail
  refine Lw.region_tail 24 (by kernel_rfl) (by kernel_rfl) ?_
  intro w1 hw1
  have hb1 : Below w.heap.size w w1 := hw1 ▸ (((Below.refl _ _).alloc (Nat.le_refl _) _).alloc (by simp) _).drew
  have HT1 : Hid (Tab w1) := HT.out _ hb1
  have HG : Hid (w1.heap[w.heap.size]? = some (.cells #[.bool false, .int .u32 n, .bool true, .string d] 30 (0, 0))) := by subst hw1; exact heap_alloc2_old _ _ _
  have HV : Hid (w1.heap[w.heap.size + 1]? = some (.cells (hcs Fm.Hd.zero) 71 (0, 0))) := by subst hw1; exact heap_alloc2_new _ _ _
  clear hw1 HT
  obtain ⟨y0, y1, y2, y3, _, _, _, _⟩ := four_cells HG.out
  obtain ⟨x0, x1, x2, x3, x4, x5, x6, x7, z0, z1, z2, z3, z4, z5, z6, z7⟩ := eight_cells HV.out
  simp only [List.take_succ_cons, List.take_zero, List.drop_succ_cons, List.drop_zero]
  repeat (first | still_step | still_call (HW.out _ HT1.out) | still_call (flag_any _ _))
  refine wpStill_nil ?_
  go_wp2
  exact bodyPost_ret (v := .agg #[.int .u64 0, .int .u64 ((n : Int)), .int .u64 1, .int .u64 0, .int .u64 n, .int .u64 1, .int .u64 0, .int .u64 (d.size : Int)])
    (by simp [results, Tryd.results40, go_sem, Bm.bv, x0, x1, x2, x3, x4, x5, x6, x7]; try rfl) rfl ⟨by rw [HE.out], (((((((hb1.setCell (Nat.le_succ _) _).setCell (Nat.le_succ _) _).setCell (Nat.le_succ _) _).setCell (Nat.le_succ _) _).setCell (Nat.le_succ _) _).setCell (Nat.le_succ _) _).setCell (Nat.le_succ _) _).setCell (Nat.le_succ _) _⟩
theorem headOf_any (x : Bool) (n : Nat) (r : Bool) (d : ByteArray) (w : World) (hT : Tab w) (hn : n < 4294967296) (h8 : d.size ≤ 8) :
    Calls Tryd.prog 40 #[.agg #[.bool x, .int .u32 n, .bool r, .string d]] w fun e w' => e = .returned (.agg (hcs (Fm.headOf x n r d.data.toList))) ∧ Below w.heap.size w w' := by
  cases x <;> cases r
  · exact headOf_ff n d w hT hn h8
  · exact headOf_ft n d w hT hn h8
  · exact headOf_tf n d w hT hn h8
  · exact headOf_tt n d w hT hn h8
end Go.Proofs.YtoinkaakiohclaaDoor
/- What Is of package frame answers, over the program's own text. -/
namespace Go.Proofs.YtoinkaakiohclaaDoor
open Go.RowKit
def fcs (x : Bool) (n : Nat) (r : Bool) (d : ByteArray) : Array Value := #[.bool x, .int .u32 n, .bool r, .string d]
theorem fr_cell {w w1 : World} {B : Nat} {a b c d : Value} {t : TypeId} (hb : Below B (w.alloc (.cells #[a, b, c, d] t)) w1) (hB : B = w.heap.size + 1) (k : Nat) (v : Value) (hv : #[a, b, c, d][k]? = some v) : w1.cell? ⟨w.heap.size, k, none⟩ = some v := by
  subst hB
  exact (hb.cell (p := ⟨w.heap.size, k, none⟩) (by simp)).trans (by rw [cell_of_row _ _ _ _ _ _ (heap_alloc_new _ _)]; exact hv)
theorem size_zero (d : ByteArray) : decide ((d.size : Int) ≤ 0) = decide (d = ByteArray.empty) := by
  rw [decide_eq_decide, ← ByteArray.size_eq_zero_iff]
  omega
theorem isF_code (x : Bool) (n : Nat) (r : Bool) (d : ByteArray) : Fm.isF x n r d.data.toList = (((n : Int) / (if x then 536870912 else 2048) == 0) && decide ((d.size : Int) ≤ if r then 0 else 8)) := by
  have hs : d.data.toList.length = d.size := by simp
  rw [Bool.eq_iff_iff]
  constructor
  · intro h
    obtain ⟨h1, h2, h3⟩ := Fm.isF_parts h
    have h4 : r = true → d.size = 0 := fun hr => by rw [← hs, h3 hr]; rfl
    rw [hs] at h2
    rw [Bool.and_eq_true, beq_iff_eq, decide_eq_true_eq]
    refine ⟨?_, ?_⟩
    · cases x
      · have : n < 2048 := h1; simp only [Bool.false_eq_true, if_false]; omega
      · have : n < 536870912 := h1; simp only [if_true]; omega
    · cases r
      · simp only [Bool.false_eq_true, if_false]; omega
      · have := h4 rfl; simp only [if_true]; omega
  · intro h
    rw [Bool.and_eq_true, beq_iff_eq, decide_eq_true_eq] at h
    obtain ⟨h1, h2⟩ := h
    refine Fm.isF_mk ?_ ?_ ?_
    · cases x
      · simp only [Bool.false_eq_true, if_false] at h1; show n < 2048; omega
      · simp only [if_true] at h1; show n < 536870912; omega
    · rw [hs]; cases r
      · simp only [Bool.false_eq_true, if_false] at h2; omega
      · simp only [if_true] at h2; omega
    · intro hr
      subst hr
      simp only [if_true] at h2
      exact List.eq_nil_of_length_eq_zero (by omega)
set_option maxRecDepth 100000 in
set_option maxHeartbeats 1000000 in
theorem fIs_ff (n : Nat) (d : ByteArray) (w : World) (hT : Tab w) :
    Calls Tryd.prog 27 #[.agg #[.bool false, .int .u32 n, .bool false, .string d]] w fun e w' => e = .returned (.bool (Fm.isF false n false d.data.toList)) ∧ Below w.heap.size w w' := by
  have HI : Hid (∀ w, Tab w → Calls Tryd.prog 39 #[.bool false] w fun e w' => e = .returned (.int .i64 11) ∧ w' = w) := fun w hT => idWidth_any false w hT
  have HV : Hid (Fm.isF false n false d.data.toList = (((n : Int) / 2048 == 0) && decide ((d.size : Int) ≤ 8))) := isF_code false n false d
  have hT1 : Hid (Tab _) := hT.alloc (.cells #[.bool false, .int .u32 n, .bool false, .string d] 30)
  generalize Fm.isF false n false d.data.toList = res at *
  clear hT
  cases h1 : ((n : Int) / 2048 == 0)
  · rw [h1, Bool.false_and] at HV
    go_enter Tryd.func27, Tryd.ntmps27
    go_wp2_with fail
    refine Lw.wp_region_quiet_below (by kernel_rfl) (by kernel_rfl) ?_
    repeat (first
      | go_big_quiet_skip
      | (go_big_quiet_want; go_big_quiet_op; go_big_quiet_on)
      | (go_big_quiet_want; go_big_quiet_op; apply Exists.intro; refine ⟨fun _ hb' => ?_, ?_⟩; (first
        | exact Lw.val_rfl _
        | (go_at_call 39; exact Lw.calls_sameB hb' (HI.out _ (hT1.out.belowB (by simp) hb')))
        | (simp [go_sem, fr_cell hb' rfl 0 _ rfl]; rfl)
        | (simp [go_sem, fr_cell hb' rfl 1 _ rfl]; rfl)
        | (simp [go_sem, fr_cell hb' rfl 2 _ rfl]; rfl)
        | (simp [go_sem, fr_cell hb' rfl 3 _ rfl]; rfl)); go_big_quiet_on))
    refine wpQuiet_nil ?_
    intro w3 hb3
    go_wp2
    go_ret
    exact ⟨ret_bool HV.out.symm, ((Below.refl _ _).alloc (Nat.le_refl _) _).trans (hb3.mono (by simp))⟩
  · rw [h1, Bool.true_and] at HV
    go_enter Tryd.func27, Tryd.ntmps27
    go_wp2_with fail
    refine Lw.wp_region_quiet_below (by kernel_rfl) (by kernel_rfl) ?_
    repeat (first
      | go_big_quiet_skip
      | (go_big_quiet_want; go_big_quiet_op; go_big_quiet_on)
      | (go_big_quiet_want; go_big_quiet_op; apply Exists.intro; refine ⟨fun _ hb' => ?_, ?_⟩; (first
        | exact Lw.val_rfl _
        | (go_at_call 39; exact Lw.calls_sameB hb' (HI.out _ (hT1.out.belowB (by simp) hb')))
        | (simp [go_sem, fr_cell hb' rfl 0 _ rfl]; rfl)
        | (simp [go_sem, fr_cell hb' rfl 1 _ rfl]; rfl)
        | (simp [go_sem, fr_cell hb' rfl 2 _ rfl]; rfl)
        | (simp [go_sem, fr_cell hb' rfl 3 _ rfl]; rfl)); go_big_quiet_on))
    refine wpQuiet_nil ?_
    intro w3 hb3
    go_wp2
    go_ret
    exact ⟨ret_bool HV.out.symm, ((Below.refl _ _).alloc (Nat.le_refl _) _).trans (hb3.mono (by simp))⟩
set_option maxRecDepth 100000 in
set_option maxHeartbeats 1000000 in
theorem fIs_ft (n : Nat) (d : ByteArray) (w : World) (hT : Tab w) :
    Calls Tryd.prog 27 #[.agg #[.bool false, .int .u32 n, .bool true, .string d]] w fun e w' => e = .returned (.bool (Fm.isF false n true d.data.toList)) ∧ Below w.heap.size w w' := by
  have HI : Hid (∀ w, Tab w → Calls Tryd.prog 39 #[.bool false] w fun e w' => e = .returned (.int .i64 11) ∧ w' = w) := fun w hT => idWidth_any false w hT
  have HV : Hid (Fm.isF false n true d.data.toList = (((n : Int) / 2048 == 0) && decide (d = ByteArray.empty))) := by rw [← size_zero]; exact isF_code false n true d
  have hT1 : Hid (Tab _) := hT.alloc (.cells #[.bool false, .int .u32 n, .bool true, .string d] 30)
  generalize Fm.isF false n true d.data.toList = res at *
  clear hT
  cases h1 : ((n : Int) / 2048 == 0)
  · rw [h1, Bool.false_and] at HV
    go_enter Tryd.func27, Tryd.ntmps27
    go_wp2_with fail
    refine Lw.wp_region_quiet_below (by kernel_rfl) (by kernel_rfl) ?_
    repeat (first
      | go_big_quiet_skip
      | (go_big_quiet_want; go_big_quiet_op; go_big_quiet_on)
      | (go_big_quiet_want; go_big_quiet_op; apply Exists.intro; refine ⟨fun _ hb' => ?_, ?_⟩; (first
        | exact Lw.val_rfl _
        | (go_at_call 39; exact Lw.calls_sameB hb' (HI.out _ (hT1.out.belowB (by simp) hb')))
        | (simp [go_sem, fr_cell hb' rfl 0 _ rfl]; rfl)
        | (simp [go_sem, fr_cell hb' rfl 1 _ rfl]; rfl)
        | (simp [go_sem, fr_cell hb' rfl 2 _ rfl]; rfl)
        | (simp [go_sem, fr_cell hb' rfl 3 _ rfl]; rfl)); go_big_quiet_on))
    refine wpQuiet_nil ?_
    intro w3 hb3
    go_wp2
    go_ret
    exact ⟨ret_bool HV.out.symm, ((Below.refl _ _).alloc (Nat.le_refl _) _).trans (hb3.mono (by simp))⟩
  · rw [h1, Bool.true_and] at HV
    go_enter Tryd.func27, Tryd.ntmps27
    go_wp2_with fail
    refine Lw.wp_region_quiet_below (by kernel_rfl) (by kernel_rfl) ?_
    repeat (first
      | go_big_quiet_skip
      | (go_big_quiet_want; go_big_quiet_op; go_big_quiet_on)
      | (go_big_quiet_want; go_big_quiet_op; apply Exists.intro; refine ⟨fun _ hb' => ?_, ?_⟩; (first
        | exact Lw.val_rfl _
        | (go_at_call 39; exact Lw.calls_sameB hb' (HI.out _ (hT1.out.belowB (by simp) hb')))
        | (simp [go_sem, fr_cell hb' rfl 0 _ rfl]; rfl)
        | (simp [go_sem, fr_cell hb' rfl 1 _ rfl]; rfl)
        | (simp [go_sem, fr_cell hb' rfl 2 _ rfl]; rfl)
        | (simp [go_sem, fr_cell hb' rfl 3 _ rfl]; rfl)); go_big_quiet_on))
    refine wpQuiet_nil ?_
    intro w3 hb3
    go_wp2
    go_ret
    exact ⟨ret_bool HV.out.symm, ((Below.refl _ _).alloc (Nat.le_refl _) _).trans (hb3.mono (by simp))⟩
set_option maxRecDepth 100000 in
set_option maxHeartbeats 1000000 in
theorem fIs_tf (n : Nat) (d : ByteArray) (w : World) (hT : Tab w) :
    Calls Tryd.prog 27 #[.agg #[.bool true, .int .u32 n, .bool false, .string d]] w fun e w' => e = .returned (.bool (Fm.isF true n false d.data.toList)) ∧ Below w.heap.size w w' := by
  have HI : Hid (∀ w, Tab w → Calls Tryd.prog 39 #[.bool true] w fun e w' => e = .returned (.int .i64 29) ∧ w' = w) := fun w hT => idWidth_any true w hT
  have HV : Hid (Fm.isF true n false d.data.toList = (((n : Int) / 536870912 == 0) && decide ((d.size : Int) ≤ 8))) := isF_code true n false d
  have hT1 : Hid (Tab _) := hT.alloc (.cells #[.bool true, .int .u32 n, .bool false, .string d] 30)
  generalize Fm.isF true n false d.data.toList = res at *
  clear hT
  cases h1 : ((n : Int) / 536870912 == 0)
  · rw [h1, Bool.false_and] at HV
    go_enter Tryd.func27, Tryd.ntmps27
    go_wp2_with fail
    refine Lw.wp_region_quiet_below (by kernel_rfl) (by kernel_rfl) ?_
    repeat (first
      | go_big_quiet_skip
      | (go_big_quiet_want; go_big_quiet_op; go_big_quiet_on)
      | (go_big_quiet_want; go_big_quiet_op; apply Exists.intro; refine ⟨fun _ hb' => ?_, ?_⟩; (first
        | exact Lw.val_rfl _
        | (go_at_call 39; exact Lw.calls_sameB hb' (HI.out _ (hT1.out.belowB (by simp) hb')))
        | (simp [go_sem, fr_cell hb' rfl 0 _ rfl]; rfl)
        | (simp [go_sem, fr_cell hb' rfl 1 _ rfl]; rfl)
        | (simp [go_sem, fr_cell hb' rfl 2 _ rfl]; rfl)
        | (simp [go_sem, fr_cell hb' rfl 3 _ rfl]; rfl)); go_big_quiet_on))
    refine wpQuiet_nil ?_
    intro w3 hb3
    go_wp2
    go_ret
    exact ⟨ret_bool HV.out.symm, ((Below.refl _ _).alloc (Nat.le_refl _) _).trans (hb3.mono (by simp))⟩
  · rw [h1, Bool.true_and] at HV
    go_enter Tryd.func27, Tryd.ntmps27
    go_wp2_with fail
    refine Lw.wp_region_quiet_below (by kernel_rfl) (by kernel_rfl) ?_
    repeat (first
      | go_big_quiet_skip
      | (go_big_quiet_want; go_big_quiet_op; go_big_quiet_on)
      | (go_big_quiet_want; go_big_quiet_op; apply Exists.intro; refine ⟨fun _ hb' => ?_, ?_⟩; (first
        | exact Lw.val_rfl _
        | (go_at_call 39; exact Lw.calls_sameB hb' (HI.out _ (hT1.out.belowB (by simp) hb')))
        | (simp [go_sem, fr_cell hb' rfl 0 _ rfl]; rfl)
        | (simp [go_sem, fr_cell hb' rfl 1 _ rfl]; rfl)
        | (simp [go_sem, fr_cell hb' rfl 2 _ rfl]; rfl)
        | (simp [go_sem, fr_cell hb' rfl 3 _ rfl]; rfl)); go_big_quiet_on))
    refine wpQuiet_nil ?_
    intro w3 hb3
    go_wp2
    go_ret
    exact ⟨ret_bool HV.out.symm, ((Below.refl _ _).alloc (Nat.le_refl _) _).trans (hb3.mono (by simp))⟩
set_option maxRecDepth 100000 in
set_option maxHeartbeats 1000000 in
theorem fIs_tt (n : Nat) (d : ByteArray) (w : World) (hT : Tab w) :
    Calls Tryd.prog 27 #[.agg #[.bool true, .int .u32 n, .bool true, .string d]] w fun e w' => e = .returned (.bool (Fm.isF true n true d.data.toList)) ∧ Below w.heap.size w w' := by
  have HI : Hid (∀ w, Tab w → Calls Tryd.prog 39 #[.bool true] w fun e w' => e = .returned (.int .i64 29) ∧ w' = w) := fun w hT => idWidth_any true w hT
  have HV : Hid (Fm.isF true n true d.data.toList = (((n : Int) / 536870912 == 0) && decide (d = ByteArray.empty))) := by rw [← size_zero]; exact isF_code true n true d
  have hT1 : Hid (Tab _) := hT.alloc (.cells #[.bool true, .int .u32 n, .bool true, .string d] 30)
  generalize Fm.isF true n true d.data.toList = res at *
  clear hT
  cases h1 : ((n : Int) / 536870912 == 0)
  · rw [h1, Bool.false_and] at HV
    go_enter Tryd.func27, Tryd.ntmps27
    go_wp2_with fail
    refine Lw.wp_region_quiet_below (by kernel_rfl) (by kernel_rfl) ?_
    repeat (first
      | go_big_quiet_skip
      | (go_big_quiet_want; go_big_quiet_op; go_big_quiet_on)
      | (go_big_quiet_want; go_big_quiet_op; apply Exists.intro; refine ⟨fun _ hb' => ?_, ?_⟩; (first
        | exact Lw.val_rfl _
        | (go_at_call 39; exact Lw.calls_sameB hb' (HI.out _ (hT1.out.belowB (by simp) hb')))
        | (simp [go_sem, fr_cell hb' rfl 0 _ rfl]; rfl)
        | (simp [go_sem, fr_cell hb' rfl 1 _ rfl]; rfl)
        | (simp [go_sem, fr_cell hb' rfl 2 _ rfl]; rfl)
        | (simp [go_sem, fr_cell hb' rfl 3 _ rfl]; rfl)); go_big_quiet_on))
    refine wpQuiet_nil ?_
    intro w3 hb3
    go_wp2
    go_ret
    exact ⟨ret_bool HV.out.symm, ((Below.refl _ _).alloc (Nat.le_refl _) _).trans (hb3.mono (by simp))⟩
  · rw [h1, Bool.true_and] at HV
    go_enter Tryd.func27, Tryd.ntmps27
    go_wp2_with fail
    refine Lw.wp_region_quiet_below (by kernel_rfl) (by kernel_rfl) ?_
    repeat (first
      | go_big_quiet_skip
      | (go_big_quiet_want; go_big_quiet_op; go_big_quiet_on)
      | (go_big_quiet_want; go_big_quiet_op; apply Exists.intro; refine ⟨fun _ hb' => ?_, ?_⟩; (first
        | exact Lw.val_rfl _
        | (go_at_call 39; exact Lw.calls_sameB hb' (HI.out _ (hT1.out.belowB (by simp) hb')))
        | (simp [go_sem, fr_cell hb' rfl 0 _ rfl]; rfl)
        | (simp [go_sem, fr_cell hb' rfl 1 _ rfl]; rfl)
        | (simp [go_sem, fr_cell hb' rfl 2 _ rfl]; rfl)
        | (simp [go_sem, fr_cell hb' rfl 3 _ rfl]; rfl)); go_big_quiet_on))
    refine wpQuiet_nil ?_
    intro w3 hb3
    go_wp2
    go_ret
    exact ⟨ret_bool HV.out.symm, ((Below.refl _ _).alloc (Nat.le_refl _) _).trans (hb3.mono (by simp))⟩
theorem fIs_any (x : Bool) (n : Nat) (r : Bool) (d : ByteArray) (w : World) (hT : Tab w) :
    Calls Tryd.prog 27 #[.agg #[.bool x, .int .u32 n, .bool r, .string d]] w fun e w' => e = .returned (.bool (Fm.isF x n r d.data.toList)) ∧ Below w.heap.size w w' := by
  cases x <;> cases r
  · exact fIs_ff n d w hT
  · exact fIs_ft n d w hT
  · exact fIs_tf n d w hT
  · exact fIs_tt n d w hT
end Go.Proofs.YtoinkaakiohclaaDoor
/- What row of a head answers, over the program's own text. -/
namespace Go.Proofs.YtoinkaakiohclaaDoor
open Go.RowKit
theorem cat_row (a b : List Bool) : ByteArray.mk (Bm.row a).toArray ++ ByteArray.mk (Bm.row b).toArray = ByteArray.mk (Bm.row (a ++ b)).toArray := by
  rw [Bm.str_app]; simp [Bm.row]
theorem of_wd (h : Fm.Hd) (k : Nat) (w : World) (y z : Int) (hy : y = (h.at k : Int)) (hz : z = (Fm.wd h.ext k : Int)) :
    Calls Tryd.prog 53 #[.int .u64 y, .int .i64 z] w fun e w' => e = .returned (.string ⟨(Bm.row (Bm.ofB (h.at k) (Fm.wd h.ext k))).toArray⟩) ∧ Below w.heap.size w w' := by
  subst hy hz
  have := of_any (h.at k) (Fm.wd h.ext k : Int) w
  rw [show Bm.clamp (Fm.wd h.ext k : Int) = Fm.wd h.ext k from by have := Fm.wd_le h.ext k; unfold Bm.clamp; omega] at this
  exact this
theorem hcs_at (h : Fm.Hd) (k : Nat) (hk : k < 8) : (hcs h)[k]? = some (.int .u64 (h.at k : Int)) := by
  match k, hk with
  | 0, _ | 1, _ | 2, _ | 3, _ | 4, _ | 5, _ | 6, _ | 7, _ => rfl
set_option maxRecDepth 100000 in
set_option maxHeartbeats 1000000 in
theorem rowOf_any (h : Fm.Hd) (m : Nat) (hm : m ≤ 8) (w : World) (hT : Tab w) (y : Int) (hy : y = (m : Int)) :
    Calls Tryd.prog 41 #[.agg (hcs h), .int .i64 y] w fun e w' => e = .returned (.string ⟨(Bm.row (h.row m)).toArray⟩) ∧ Below w.heap.size w w' := by
  subst hy
  have HX : Hid (∀ w, Calls Tryd.prog 54 #[.agg (hcs h)] w fun e w' => e = .returned (.bool h.ext) ∧ Below w.heap.size w w') := fun w => ext_any h w
  have HW : Hid (∀ k : Nat, k < 8 → ∀ w, Tab w → Calls Tryd.prog 51 #[.int .i64 (k : Int), .bool h.ext] w fun e w' => e = .returned (.int .i64 (Fm.wd h.ext k)) ∧ w' = w) := fun k hk w hT => width_any k hk h.ext w hT _ rfl
  have HO : Hid (∀ (k : Nat) (w : World), Calls Tryd.prog 53 #[.int .u64 (h.at k : Int), .int .i64 (Fm.wd h.ext k : Int)] w fun e w' => e = .returned (.string ⟨(Bm.row (Bm.ofB (h.at k) (Fm.wd h.ext k))).toArray⟩) ∧ Below w.heap.size w w') := fun k w => of_wd h k w _ _ rfl rfl
  have HA : Hid (∀ k : Nat, k < 8 → (hcs h)[k]? = some (.int .u64 (h.at k : Int))) := fun k hk => hcs_at h k hk
  have HT : Hid (∀ w', Below w.heap.size w w' → Tab w') := fun w' hb => hT.below hb
  clear hT
  go_enter Tryd.func41, Tryd.ntmps41
  go_wp2_with fail
  go_loopw [5, 8] (fun t i wr => ∃ k : Nat, k ≤ m ∧ i = .int .i64 k ∧ t = .string ⟨(Bm.row (h.row k)).toArray⟩ ∧ Hid (wr.heap[w.heap.size]? = some (.cells (hcs h) 71 (0, 0))) ∧ Below w.heap.size w wr) (fun _ i _ => m - (intOf i).toNat)
  case atStart => exact ⟨0, Nat.zero_le _, rfl, rfl, heap_alloc_new _ _, (Below.refl _ _).alloc (Nat.le_refl _) _⟩
  case round =>
    obtain ⟨k, hk, rfl, rfl, HG, hb⟩ := hrel
    by_cases hlt : k < m
    · have hz : w.heap.size < wr.heap.size := (Array.getElem?_eq_some_iff.1 HG.out).1
      have HF : Hid (∀ w1, Below wr.heap.size wr w1 → ∀ (j : Nat) (v : Value), (hcs h)[j]? = some v → w1.cell? ⟨w.heap.size, j, none⟩ = some v) := fun w1 hb1 j v hv =>
        (hb1.cell (p := ⟨w.heap.size, j, none⟩) hz).trans (by rw [cell_of_row _ _ _ _ _ _ HG.out]; exact hv)
      have HTr : Hid (∀ w1, Below wr.heap.size wr w1 → Tab w1) := fun w1 hb1 => HT.out _ (below_join hb hb1)
      have HWk : Hid (_) := HW.out k (by omega)
      have HOk : Hid (_) := HO.out k
      have HAk : Hid (_) := HA.out k (by omega)
      have HS : Hid (_) := cat_row (h.row k) (Bm.ofB (h.at k) (Fm.wd h.ext k))
      have HR : Hid (_) := Fm.row_succ h k
      have hl1 : (ByteArray.mk (Bm.row (h.row k)).toArray).size ≤ 144 := by rw [size_str, Bm.length_row]; have := Fm.length_row_le h k; omega
      have hl2 : (ByteArray.mk (Bm.row (Bm.ofB (h.at k) (Fm.wd h.ext k))).toArray).size ≤ 18 := by rw [size_str, Bm.length_row, Bm.length_ofB]; exact Fm.wd_le _ _
      generalize ByteArray.mk (Bm.row (Bm.ofB (h.at k) (Fm.wd h.ext k))).toArray = S2 at *
      obtain ⟨S1, hS1⟩ : ∃ S1, S1 = ByteArray.mk (Bm.row (h.row k)).toArray := ⟨_, rfl⟩
      rw [← hS1] at HS hl1 ⊢
      clear hS1 HW HO HA HT
      go_wp2_with fail
      refine Lw.wp_region_quiet_below (by kernel_rfl) (by kernel_rfl) ?_
      repeat (first
        | go_big_quiet_skip
        | (go_big_quiet_want; go_big_quiet_op; go_big_quiet_on)
        | (go_big_quiet_want; go_big_quiet_op; apply Exists.intro; refine ⟨fun _ hb' => ?_, ?_⟩; (first
          | exact Lw.val_rfl _
          | (go_at_call 54; exact Lw.calls_below hb' (HX.out _))
          | (go_at_call 51; exact Lw.calls_same hb' (HWk.out _ (HTr.out _ hb')))
          | (go_at_call 53; exact Lw.calls_below hb' (HOk.out _))
          | (simp [go_sem, HF.out _ hb' k _ HAk.out]; rfl)
          | (simp [go_sem, HF.out _ hb' 0 _ rfl, HF.out _ hb' 1 _ rfl, HF.out _ hb' 2 _ rfl, HF.out _ hb' 3 _ rfl, HF.out _ hb' 4 _ rfl, HF.out _ hb' 5 _ rfl, HF.out _ hb' 6 _ rfl, HF.out _ hb' 7 _ rfl]; rfl)); go_big_quiet_on))
      refine wpQuiet_nil ?_
      intro w3 hb3
      go_wp2
      go_roundw
      case rel => exact ⟨k + 1, by omega, by go_num, by rw [HR.out, ← HS.out], (hb3.block _ hz).trans HG.out, below_join hb hb3⟩
      case measure => simp [intOf]; omega
    · obtain rfl : k = m := by omega
      go_wp2
      go_ret
      exact ⟨rfl, hb⟩
end Go.Proofs.YtoinkaakiohclaaDoor
/- What Body of package frame answers, over the program's own text. -/
namespace Go.Proofs.YtoinkaakiohclaaDoor
open Go.RowKit
theorem head_ok (x : Bool) (n : Nat) (r : Bool) (d : List UInt8) (hn : n < 4294967296) (h8 : d.length ≤ 8) : (Fm.headOf x n r d).ok := by
  have h1 : n / 2 ^ Fm.wd x 4 ≤ n := Nat.div_le_self _ _
  have b1 := Bm.bv_le (x || r)
  have b2 := Bm.bv_le x
  have b3 := Bm.bv_le r
  intro k
  match k with
  | 0 => exact (by decide : 0 < 18446744073709551616)
  | 1 => show n / 2 ^ Fm.wd x 4 < _; omega
  | 2 => show Bm.bv (x || r) < _; omega
  | 3 => show Bm.bv x < _; omega
  | 4 => show n < _; omega
  | 5 => show Bm.bv r < _; omega
  | 6 => exact (by decide : 0 < 18446744073709551616)
  | 7 => show d.length < _; omega
  | k + 8 => exact (by decide : 0 < 18446744073709551616)
end Go.Proofs.YtoinkaakiohclaaDoor
/- What Arb of package frame answers, over the program's own text. -/
namespace Go.Proofs.YtoinkaakiohclaaDoor
open Go.RowKit
set_option maxRecDepth 100000 in
set_option maxHeartbeats 1000000 in
theorem fArb_any (x : Bool) (n : Nat) (r : Bool) (d : ByteArray) (w : World) (hT : Tab w) (hn : n < 4294967296) :
    Calls Tryd.prog 29 #[.agg #[.bool x, .int .u32 n, .bool r, .string d]] w fun e w' => e = .returned (.string ⟨(Bm.row (Fm.arb x n r d.data.toList)).toArray⟩) ∧ Below w.heap.size w w' := by
  have HI : Hid (∀ w, Tab w → Calls Tryd.prog 27 #[.agg #[.bool x, .int .u32 n, .bool r, .string d]] w fun e w' => e = .returned (.bool (Fm.isF x n r d.data.toList)) ∧ Below w.heap.size w w') := fun w hT => fIs_any x n r d w hT
  have HA : Hid (Fm.arb x n r d.data.toList = if Fm.isF x n r d.data.toList then Fm.arb0 x n r else []) := rfl
  have HQ : Hid (Fm.isF x n r d.data.toList = true → d.size ≤ 8) := fun h => by simpa using (Fm.isF_parts h).2.1
  have hT1 := hT.alloc (.cells #[.bool x, .int .u32 n, .bool r, .string d] 30)
  generalize Fm.arb x n r d.data.toList = res at *
  generalize Fm.isF x n r d.data.toList = b at *
  cases b
  · have HE : Hid (res = []) := HA.out
    go_enter Tryd.func29, Tryd.ntmps29
    go_wp2_with fail
    refine (HI.out _ hT1).mono ?_
    rintro e w1 ⟨rfl, hb1⟩
    have hb2 := below_join ((Below.refl _ _).alloc (Nat.le_refl _) _) hb1
    go_wp2
    go_ret
    exact ⟨by rw [HE.out]; rfl, hb2⟩
  · have HE : Hid (res = Fm.arb0 x n r) := HA.out
    have h8 := HQ.out rfl
    have HH : Hid (∀ w, Tab w → Calls Tryd.prog 40 #[.agg #[.bool x, .int .u32 n, .bool r, .string d]] w fun e w' => e = .returned (.agg (hcs (Fm.headOf x n r d.data.toList))) ∧ Below w.heap.size w w') := fun w hT => headOf_any x n r d w hT hn h8
    have HR : Hid (∀ w, Tab w → Calls Tryd.prog 41 #[.agg (hcs (Fm.headOf x n r d.data.toList)), .int .i64 6] w fun e w' => e = .returned (.string ⟨(Bm.row (Fm.arb0 x n r)).toArray⟩) ∧ Below w.heap.size w w') := fun w hT => by
      have := rowOf_any (Fm.headOf x n r d.data.toList) 6 (by decide) w hT 6 rfl
      rw [Fm.row_arb] at this
      exact this
    clear HA HQ
    go_enter Tryd.func29, Tryd.ntmps29
    go_wp2_with fail
    refine (HI.out _ hT1).mono ?_
    rintro e w1 ⟨rfl, hb1⟩
    have c0 := fr_cell hb1 (by simp) 0 _ rfl
    have c1 := fr_cell hb1 (by simp) 1 _ rfl
    have c2 := fr_cell hb1 (by simp) 2 _ rfl
    have c3 := fr_cell hb1 (by simp) 3 _ rfl
    have hT2 : Hid (Tab w1) := hT1.below hb1
    have hb2 := below_join ((Below.refl _ _).alloc (Nat.le_refl _) _) hb1
    clear hb1 HI hT hT1
    go_wp2_with fail
    refine (HH.out _ hT2.out).mono ?_
    rintro e w2 ⟨rfl, hb3⟩
    have hT3 : Hid (Tab w2) := hT2.out.below hb3
    have hb4 := below_join hb2 hb3
    clear hb3 hb2 hT2 c0 c1 c2 c3
    go_wp2_with fail
    refine (HR.out _ hT3.out).mono ?_
    rintro e w3 ⟨rfl, hb5⟩
    have hb6 := below_join hb4 hb5
    go_wp2
    go_ret
    exact ⟨by rw [HE.out]; rfl, hb6⟩
end Go.Proofs.YtoinkaakiohclaaDoor
