/- Plain mathematics of a frame's head: what is read field by field is what the document's own reading tells. -/
import Derived.Test.YtaphdehhnnglgaaDoorFw
namespace Go.Proofs.YtaphdehhnnglgaaDoor.Fm
open Go.Proofs.YtaphdehhnnglgaaDoor.Bm
theorem rd_go (bs : List Bool) (n k p : Nat) (h : Hd) (v w : Nat) (hw : wd h.ext k = w) (hv : num (cut bs p w) = v) : rd bs (n + 1) k p h =
    if bs.length < p + w then (Hd.zero, 0, 10) else if (h.set k v).wrong then (Hd.zero, 0, 12) else rd bs n (k + 1) (p + w) (h.set k v) := by
  subst hw hv; rfl
theorem ext_bv (a b c : Nat) (x : Bool) (d e f g : Nat) : (Hd.mk a b c (bv x) d e f g).ext = x := bv_one x
theorem rd_front (bs : List Bool) : rd bs 8 0 0 Hd.zero = if bs.length < 1 then (Hd.zero, 0, 10) else if bs.getD 0 false then (Hd.zero, 0, 12) else if bs.length < 14 then (Hd.zero, 0, 10)
    else if bs.getD 13 false && !bs.getD 12 false then (Hd.zero, 0, 12) else rd bs 4 4 14 ⟨0, num (cut bs 1 11), bv (bs.getD 12 false), bv (bs.getD 13 false), 0, 0, 0, 0⟩ := by
  rw [rd_go bs 7 0 0 Hd.zero _ 1 rfl rfl]
  by_cases c1 : bs.length < 1
  · rw [if_pos c1, if_pos c1]
  rw [if_neg c1, if_neg c1, num_cut1 bs 0 (by omega)]
  cases q0 : bs.getD 0 false
  case true => rfl
  have e0 : ((Hd.zero.set 0 (bv false)).wrong) = false := rfl
  rw [e0, if_neg Bool.false_ne_true, if_neg Bool.false_ne_true]
  show rd bs 7 1 (0 + 1) ⟨0, 0, 0, 0, 0, 0, 0, 0⟩ = _
  rw [rd_go bs 6 1 (0 + 1) _ (num (cut bs 1 11)) 11 rfl rfl]
  by_cases c2 : bs.length < 0 + 1 + 11
  · rw [if_pos c2, if_pos (show bs.length < 14 by omega)]
  rw [if_neg c2]
  have e1 : ((Hd.mk 0 0 0 0 0 0 0 0).set 1 (num (cut bs 1 11))).wrong = false := rfl
  rw [e1, if_neg (by decide)]
  show rd bs 6 2 12 ⟨0, num (cut bs 1 11), 0, 0, 0, 0, 0, 0⟩ = _
  rw [rd_go bs 5 2 12 _ (num (cut bs 12 1)) 1 rfl rfl]
  by_cases c3 : bs.length < 12 + 1
  · rw [if_pos c3, if_pos (show bs.length < 14 by omega)]
  rw [if_neg c3, num_cut1 bs 12 (by omega)]
  have e2 : ((Hd.mk 0 (num (cut bs 1 11)) 0 0 0 0 0 0).set 2 (bv (bs.getD 12 false))).wrong = false := rfl
  rw [e2, if_neg (by decide)]
  show rd bs 5 3 13 ⟨0, num (cut bs 1 11), bv (bs.getD 12 false), 0, 0, 0, 0, 0⟩ = _
  rw [rd_go bs 4 3 13 _ (num (cut bs 13 1)) 1 rfl rfl]
  by_cases c4 : bs.length < 13 + 1
  · rw [if_pos c4, if_pos (show bs.length < 14 by omega)]
  rw [if_neg c4, if_neg (show ¬ bs.length < 14 by omega), num_cut1 bs 13 (by omega)]
  have e3 : ((Hd.mk 0 (num (cut bs 1 11)) (bv (bs.getD 12 false)) 0 0 0 0 0).set 3 (bv (bs.getD 13 false))).wrong = (bs.getD 13 false && !bs.getD 12 false) := by
    show (false || ((bv (bs.getD 13 false) == 1) && (bv (bs.getD 12 false) == 0))) = _
    rw [bv_one, bv_zero, Bool.false_or]
  rw [e3]
  rfl
theorem rd_std (bs : List Bool) (n : Nat) (r : Bool) : rd bs 4 4 14 ⟨0, n, bv r, bv false, 0, 0, 0, 0⟩ = if bs.length < 14 then (Hd.zero, 0, 10) else if bs.length < 15 then (Hd.zero, 0, 10) else if bs.length < 19 then (Hd.zero, 0, 10)
    else (⟨0, n, bv r, 0, 0, 0, num (cut bs 14 1), num (cut bs 15 4)⟩, 19, 0) := by
  rw [rd_go bs 3 4 14 _ (num (cut bs 14 0)) 0 rfl rfl]
  by_cases c1 : bs.length < 14
  · rw [if_pos c1, if_pos c1]
  rw [if_neg c1, if_neg c1, cut_zero]
  have e1 : ((Hd.mk 0 n (bv r) (bv false) 0 0 0 0).set 4 (num [])).wrong = false := by cases r <;> rfl
  rw [e1, if_neg (by decide)]
  show rd bs 3 5 14 ⟨0, n, bv r, 0, 0, 0, 0, 0⟩ = _
  rw [rd_go bs 2 5 14 _ (num (cut bs 14 0)) 0 rfl rfl, if_neg (by omega), cut_zero]
  have e2 : ((Hd.mk 0 n (bv r) 0 0 0 0 0).set 5 (num [])).wrong = false := by cases r <;> rfl
  rw [e2, if_neg (by decide)]
  show rd bs 2 6 14 ⟨0, n, bv r, 0, 0, 0, 0, 0⟩ = _
  rw [rd_go bs 1 6 14 _ (num (cut bs 14 1)) 1 rfl rfl]
  by_cases c2 : bs.length < 15
  · rw [if_pos c2, if_pos c2]
  rw [if_neg c2, if_neg c2]
  have e3 : ((Hd.mk 0 n (bv r) 0 0 0 0 0).set 6 (num (cut bs 14 1))).wrong = false := by cases r <;> rfl
  rw [e3, if_neg (by decide)]
  show rd bs 1 7 15 ⟨0, n, bv r, 0, 0, 0, num (cut bs 14 1), 0⟩ = _
  rw [rd_go bs 0 7 15 _ (num (cut bs 15 4)) 4 rfl rfl]
  by_cases c3 : bs.length < 19
  · rw [if_pos c3, if_pos c3]
  rw [if_neg c3, if_neg c3]
  have e4 : ((Hd.mk 0 n (bv r) 0 0 0 (num (cut bs 14 1)) 0).set 7 (num (cut bs 15 4))).wrong = false := by cases r <;> rfl
  rw [e4, if_neg (by decide)]
  rfl
theorem rd_ext (bs : List Bool) (n : Nat) : rd bs 4 4 14 ⟨0, n, bv true, bv true, 0, 0, 0, 0⟩ = if bs.length < 33 then (Hd.zero, 0, 10) else if bs.length < 39 then (Hd.zero, 0, 10)
    else (⟨0, n, 1, 1, num (cut bs 14 18), bv (bs.getD 32 false), num (cut bs 33 2), num (cut bs 35 4)⟩, 39, 0) := by
  rw [rd_go bs 3 4 14 _ (num (cut bs 14 18)) 18 rfl rfl]
  by_cases c1 : bs.length < 32
  · rw [if_pos (show bs.length < 14 + 18 by omega), if_pos (show bs.length < 33 by omega)]
  rw [if_neg (show ¬ bs.length < 14 + 18 by omega)]
  have e1 : ((Hd.mk 0 n (bv true) (bv true) 0 0 0 0).set 4 (num (cut bs 14 18))).wrong = false := rfl
  rw [e1, if_neg (by decide)]
  show rd bs 3 5 32 ⟨0, n, 1, 1, num (cut bs 14 18), 0, 0, 0⟩ = _
  rw [rd_go bs 2 5 32 _ (num (cut bs 32 1)) 1 rfl rfl]
  by_cases c2 : bs.length < 33
  · rw [if_pos c2, if_pos c2]
  rw [if_neg c2, if_neg c2, num_cut1 bs 32 (by omega)]
  have e2 : ((Hd.mk 0 n 1 1 (num (cut bs 14 18)) 0 0 0).set 5 (bv (bs.getD 32 false))).wrong = false := rfl
  rw [e2, if_neg (by decide)]
  show rd bs 2 6 33 ⟨0, n, 1, 1, num (cut bs 14 18), bv (bs.getD 32 false), 0, 0⟩ = _
  rw [rd_go bs 1 6 33 _ (num (cut bs 33 2)) 2 rfl rfl]
  by_cases c3 : bs.length < 35
  · rw [if_pos (show bs.length < 33 + 2 by omega), if_pos (show bs.length < 39 by omega)]
  rw [if_neg (show ¬ bs.length < 33 + 2 by omega)]
  have e3 : ((Hd.mk 0 n 1 1 (num (cut bs 14 18)) (bv (bs.getD 32 false)) 0 0).set 6 (num (cut bs 33 2))).wrong = false := rfl
  rw [e3, if_neg (by decide)]
  show rd bs 1 7 35 ⟨0, n, 1, 1, num (cut bs 14 18), bv (bs.getD 32 false), num (cut bs 33 2), 0⟩ = _
  rw [rd_go bs 0 7 35 _ (num (cut bs 35 4)) 4 rfl rfl]
  by_cases c4 : bs.length < 39
  · rw [if_pos c4, if_pos c4]
  rw [if_neg c4, if_neg c4]
  have e4 : ((Hd.mk 0 n 1 1 (num (cut bs 14 18)) (bv (bs.getD 32 false)) (num (cut bs 33 2)) 0).set 7 (num (cut bs 35 4))).wrong = false := rfl
  rw [e4, if_neg (by decide)]
  rfl
def tellH (bs : List Bool) : Hd × Nat × Nat → (Bool × Nat × Bool × List UInt8) × Nat × Nat
  | (h, p, e) => if e ≠ 0 then none_ e else if bs.length < p + 8 * h.bytes then none_ 10 else ((h.ext, h.id, h.rtr, Bm.bytes (cut bs p (8 * h.bytes))), p + 8 * h.bytes, 0)
theorem tell_none (bs : List Bool) (e : Nat) (h : e ≠ 0) : tellH bs (Hd.zero, 0, e) = none_ e := by unfold tellH; simp only; rw [if_pos h]
theorem id_std (n : Nat) (r : Bool) (b c : Nat) (h : n < 2048) : (Hd.mk 0 n (bv r) 0 0 0 b c).id = n := by
  show ((n * 2 ^ 0 % 18446744073709551616) ||| 0) % 4294967296 = n
  rw [Nat.or_zero]
  omega
theorem id_ext (n m : Nat) (r b c : Nat) (h : n < 2048) (hm : m < 262144) : (Hd.mk 0 n 1 1 m r b c).id = n * 262144 + m := by
  show ((n * 2 ^ 18 % 18446744073709551616) ||| m) % 4294967296 = n * 262144 + m
  have e : n * 2 ^ 18 % 18446744073709551616 = 2 ^ 18 * n := by omega
  rw [e, ← Nat.two_pow_add_eq_or_of_lt (i := 18) (by simpa using hm)]
  omega
theorem parseH_eq (bs : List Bool) : parseH bs = parse bs := by
  show tellH bs (rd bs 8 0 0 Hd.zero) = _
  rw [rd_front]
  unfold parse
  by_cases c1 : bs.length < 1
  · rw [if_pos c1, if_pos c1, tell_none _ _ (by decide)]
  rw [if_neg c1, if_neg c1]
  cases q0 : bs.getD 0 false
  case true => rw [if_pos (rfl : true = true), if_pos (rfl : true = true), tell_none _ _ (by decide)]
  rw [if_neg Bool.false_ne_true, if_neg Bool.false_ne_true]
  by_cases c2 : bs.length < 14
  · rw [if_pos c2, if_pos c2, tell_none _ _ (by decide)]
  rw [if_neg c2, if_neg c2]
  have l1 := num_cut bs 1 11
  have l2 := num_cut bs 14 18
  cases q13 : bs.getD 13 false
  · rw [Bool.false_and, if_neg Bool.false_ne_true, if_neg Bool.false_ne_true, rd_std]
    unfold parseL
    rw [if_neg c2]
    by_cases c3 : bs.length < 15
    · rw [if_pos c3, if_pos (by omega), tell_none _ _ (by decide)]
    rw [if_neg c3]
    by_cases c4 : bs.length < 19
    · rw [if_pos c4, if_pos (by omega), tell_none _ _ (by decide)]
    rw [if_neg c4, if_neg (by omega)]
    unfold tellH parseD
    simp only
    rw [if_neg (by decide)]
    have hr : (Hd.mk 0 (num (cut bs 1 11)) (bv (bs.getD 12 false)) 0 0 0 (num (cut bs 14 1)) (num (cut bs 15 4))).rtr = bs.getD 12 false := by
      show (bv (bs.getD 12 false) == 1) = _
      exact bv_one _
    have hb : (Hd.mk 0 (num (cut bs 1 11)) (bv (bs.getD 12 false)) 0 0 0 (num (cut bs 14 1)) (num (cut bs 15 4))).bytes = if bs.getD 12 false then 0 else min (num (cut bs 15 4)) 8 := by
      unfold Hd.bytes
      rw [hr]
    rw [hb, hr, id_std _ _ _ _ (by simpa using l1)]
    rfl
  · rw [Bool.true_and, if_pos (rfl : true = true)]
    cases q12 : bs.getD 12 false
    · rw [Bool.not_false, if_pos (rfl : true = true), if_neg Bool.false_ne_true, tell_none _ _ (by decide)]
    rw [Bool.not_true, if_neg Bool.false_ne_true, if_pos (rfl : true = true), rd_ext]
    by_cases c3 : bs.length < 33
    · rw [if_pos c3, if_pos c3, tell_none _ _ (by decide)]
    rw [if_neg c3, if_neg c3]
    unfold parseL
    by_cases c4 : bs.length < 39
    · rw [if_pos c4, if_pos (by omega), tell_none _ _ (by decide)]
    rw [if_neg c4, if_neg (by omega)]
    unfold tellH parseD
    simp only
    rw [if_neg (by decide)]
    have hr : (Hd.mk 0 (num (cut bs 1 11)) 1 1 (num (cut bs 14 18)) (bv (bs.getD 32 false)) (num (cut bs 33 2)) (num (cut bs 35 4))).rtr = bs.getD 32 false := by
      show (bv (bs.getD 32 false) == 1) = _
      exact bv_one _
    have hb : (Hd.mk 0 (num (cut bs 1 11)) 1 1 (num (cut bs 14 18)) (bv (bs.getD 32 false)) (num (cut bs 33 2)) (num (cut bs 35 4))).bytes = if bs.getD 32 false then 0 else min (num (cut bs 35 4)) 8 := by
      unfold Hd.bytes
      rw [hr]
    rw [hb, hr, id_ext _ _ _ _ _ (by simpa using l1) (by simpa using l2)]
    rfl
end Go.Proofs.YtaphdehhnnglgaaDoor.Fm
