/- Plain mathematics of a frame's head: eight numbers, their widths, the bits that they make; nothing of the program is in it. -/
import Derived.Test.YtaphdehhnnglgaaDoorMa
namespace Go.Proofs.YtaphdehhnnglgaaDoor.Fm
open Go.Proofs.YtaphdehhnnglgaaDoor.Bm
/-- how wide a field is -/
def wd (x : Bool) (k : Nat) : Nat := if x then [1, 11, 1, 1, 18, 1, 2, 4].getD k 0 else [1, 11, 1, 1, 0, 0, 1, 4].getD k 0
/-- a head: eight numbers -/
structure Hd where
  a0 : Nat
  a1 : Nat
  a2 : Nat
  a3 : Nat
  a4 : Nat
  a5 : Nat
  a6 : Nat
  a7 : Nat
def Hd.at (h : Hd) : Nat → Nat
  | 0 => h.a0 | 1 => h.a1 | 2 => h.a2 | 3 => h.a3 | 4 => h.a4 | 5 => h.a5 | 6 => h.a6 | 7 => h.a7 | _ => 0
def Hd.set (h : Hd) (k v : Nat) : Hd :=
  match k with
  | 0 => { h with a0 := v } | 1 => { h with a1 := v } | 2 => { h with a2 := v } | 3 => { h with a3 := v } | 4 => { h with a4 := v } | 5 => { h with a5 := v } | 6 => { h with a6 := v } | 7 => { h with a7 := v } | _ => h
def Hd.zero : Hd := ⟨0, 0, 0, 0, 0, 0, 0, 0⟩
def Hd.ok (h : Hd) : Prop := ∀ k, h.at k < 18446744073709551616
def Hd.ext (h : Hd) : Bool := h.a3 == 1
def Hd.rtr (h : Hd) : Bool := if h.ext then h.a5 == 1 else h.a2 == 1
def Hd.wrong (h : Hd) : Bool := h.a0 == 1 || (h.ext && h.a2 == 0)
def Hd.bytes (h : Hd) : Nat := if h.rtr then 0 else min h.a7 8
def Hd.id (h : Hd) : Nat := ((h.a1 * 2 ^ wd h.ext 4 % 18446744073709551616) ||| h.a4) % 4294967296
def Hd.row (h : Hd) (n : Nat) : List Bool := (List.range n).flatMap fun k => ofB (h.at k) (wd h.ext k)
def headOf (x : Bool) (n : Nat) (r : Bool) (d : List UInt8) : Hd := ⟨0, n / 2 ^ wd x 4, bv (x || r), bv x, n, bv r, 0, d.length⟩
/-- the head read field by field -/
def rd (bs : List Bool) : Nat → Nat → Nat → Hd → Hd × Nat × Nat
  | 0, _, p, h => (h, p, 0)
  | n + 1, k, p, h =>
    if bs.length < p + wd h.ext k then (Hd.zero, 0, 10)
    else if (h.set k (num (cut bs p (wd h.ext k)))).wrong then (Hd.zero, 0, 12)
    else rd bs n (k + 1) (p + wd h.ext k) (h.set k (num (cut bs p (wd h.ext k))))
def parseH (bs : List Bool) : (Bool × Nat × Bool × List UInt8) × Nat × Nat :=
  match rd bs 8 0 0 Hd.zero with
  | (h, p, e) => if e ≠ 0 then none_ e else if bs.length < p + 8 * h.bytes then none_ 10 else ((h.ext, h.id, h.rtr, Bm.bytes (cut bs p (8 * h.bytes))), p + 8 * h.bytes, 0)
theorem wd_le (x : Bool) (k : Nat) : wd x k ≤ 18 := by
  unfold wd
  match k with
  | 0 | 1 | 2 | 3 | 4 | 5 | 6 | 7 => cases x <;> decide
  | k + 8 => cases x <;> simp
theorem at_set_lt (h : Hd) (k v : Nat) (ok : h.ok) (hv : v < 18446744073709551616) : (h.set k v).ok := by
  intro j
  have h0 := ok 0; have h1 := ok 1; have h2 := ok 2; have h3 := ok 3; have h4 := ok 4; have h5 := ok 5; have h6 := ok 6; have h7 := ok 7
  match k with
  | 0 | 1 | 2 | 3 | 4 | 5 | 6 | 7 => match j with
    | 0 | 1 | 2 | 3 | 4 | 5 | 6 | 7 => first | exact hv | assumption
    | j + 8 => exact Nat.lt_of_lt_of_le (by decide : 0 < 1) (by decide)
  | k + 8 => exact ok j
theorem zero_ok : Hd.zero.ok := by
  intro k
  match k with
  | 0 | 1 | 2 | 3 | 4 | 5 | 6 | 7 => decide
  | k + 8 => exact Nat.lt_of_lt_of_le (by decide : 0 < 1) (by decide)
/-! the bits of a frame are its head's -/
theorem bv_bit (b : Bool) : ofB (bv b) 1 = [b] := by cases b <;> decide
theorem headOf_ext (x : Bool) (n : Nat) (r : Bool) (d : List UInt8) : (headOf x n r d).ext = x := by cases x <;> rfl
theorem row_arb (x : Bool) (n : Nat) (r : Bool) (d : List UInt8) : (headOf x n r d).row 6 = arb0 x n r := by
  unfold Hd.row
  rw [headOf_ext]
  cases x
  · show ofB 0 1 ++ (ofB (n / 1) 11 ++ (ofB (bv r) 1 ++ (ofB (bv false) 1 ++ (ofB n 0 ++ (ofB (bv r) 0 ++ []))))) = _
    rw [bv_bit, bv_bit, Nat.div_one]
    unfold arb0
    simp [ofB]
  · show ofB 0 1 ++ (ofB (n / 2 ^ 18) 11 ++ (ofB (bv true) 1 ++ (ofB (bv true) 1 ++ (ofB n 18 ++ (ofB (bv r) 1 ++ []))))) = _
    rw [bv_bit, bv_bit]
    unfold arb0
    simp only [if_true, List.append_nil]
    rfl
theorem row_body (x : Bool) (n : Nat) (r : Bool) (d : List UInt8) : (headOf x n r d).row 8 ++ fromB d = body0 x n r d := by
  have e : (headOf x n r d).row 8 = (headOf x n r d).row 6 ++ (ofB 0 (wd x 6) ++ ofB d.length 4) := by
    unfold Hd.row
    rw [headOf_ext, List.range_succ, List.range_succ, List.flatMap_append, List.flatMap_append]
    simp only [List.flatMap_cons, List.flatMap_nil, List.append_nil, List.append_assoc]
    cases x <;> rfl
  rw [e, row_arb]
  unfold body0
  cases x
  · simp only [List.append_assoc]; rfl
  · simp only [List.append_assoc]; rfl
theorem row_succ (h : Hd) (k : Nat) : h.row (k + 1) = h.row k ++ ofB (h.at k) (wd h.ext k) := by
  unfold Hd.row
  rw [List.range_succ, List.flatMap_append]
  simp
theorem length_row_le (h : Hd) (k : Nat) : (h.row k).length ≤ 18 * k := by
  induction k with
  | zero => simp [Hd.row]
  | succ k ih =>
    rw [row_succ, List.length_append, length_ofB]
    have := wd_le h.ext k
    omega
/-! a head that is read -/
theorem num_nil : num [] = 0 := rfl
theorem cut_zero (bs : List Bool) (i : Nat) : cut bs i 0 = [] := by simp [cut]
theorem num_cut1 (bs : List Bool) (i : Nat) (h : i < bs.length) : num (cut bs i 1) = bv (bs.getD i false) := by
  have e : cut bs i 1 = [bs[i]] := by
    unfold cut
    rw [List.drop_eq_getElem_cons h]
    rfl
  rw [e, List.getD_eq_getElem?_getD, List.getElem?_eq_getElem h]
  show num [bs[i]] = bv bs[i]
  cases bs[i] <;> rfl
theorem bv_one (b : Bool) : (bv b == 1) = b := by cases b <;> rfl
theorem bv_zero (b : Bool) : (bv b == 0) = !b := by cases b <;> rfl
end Go.Proofs.YtaphdehhnnglgaaDoor.Fm
