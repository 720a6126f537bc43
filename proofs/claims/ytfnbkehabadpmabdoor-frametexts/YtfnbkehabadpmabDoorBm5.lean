/- Plain mathematics for the document's own bits, as their text spells the tests; nothing of the program is in it. -/
import Derived.Test.YtfnbkehabadpmabDoorBm4
namespace Go.Proofs.YtfnbkehabadpmabDoor.Bm

theorem isOne_dec (c : UInt8) : ((c.toNat : Int) == 49) = isOne c := by
  rw [Bool.eq_iff_iff, beq_iff_eq, isOne_iff]
theorem top_dec (m : Nat) (h : m < 32768) : (bits .and .u16 ((m : Int) / 16384) 1 == 1) = decide (16384 ≤ m) := by
  have e : ((m : Int) / 16384) = ((m / 16384 : Nat) : Int) := by omega
  have e1 : (1 : Int) = ((1 : Nat) : Int) := rfl
  rw [e, e1, u16_and_nat _ _ (by omega) (by decide), nat_mask1, Bool.eq_iff_iff, beq_iff_eq, decide_eq_true_iff]
  omega
theorem refcrc_yes (c : UInt8) (m : Nat) (h : m < 32768) (t : (!((bits .and .u16 ((m : Int) / 16384) 1 == 1) == ((c.toNat : Int) == 49))) = true) :
    bits .xor .u16 (bits .and .u16 ((m : Int) * 2) 32767) 17817 = (crcStep m (isOne c) : Int) := by
  apply crc_yes c m h
  rw [test_crc c m h]
  rw [isOne_dec, top_dec m h] at t
  revert t
  cases isOne c <;> cases decide (16384 ≤ m) <;> simp
theorem refcrc_no (c : UInt8) (m : Nat) (h : m < 32768) (t : (!((bits .and .u16 ((m : Int) / 16384) 1 == 1) == ((c.toNat : Int) == 49))) = false) :
    bits .and .u16 ((m : Int) * 2) 32767 = (crcStep m (isOne c) : Int) := by
  apply crc_no c m h
  rw [test_crc c m h]
  rw [isOne_dec, top_dec m h] at t
  revert t
  cases isOne c <;> cases decide (16384 ≤ m) <;> simp

theorem num_yes (c : UInt8) (m : Nat) (h : m < 18446744073709551616) (t : ((c.toNat : Int) == 49) = true) : bits .or .u64 (IntKind.u64.wrap ((m : Int) * 2)) 1 = (numStep m (isOne c) : Int) := by
  rw [isOne_dec] at t
  rw [t, ← or_step m true h]
  rfl
theorem num_no (c : UInt8) (m : Nat) (_h : m < 18446744073709551616) (t : ((c.toNat : Int) == 49) = false) : IntKind.u64.wrap ((m : Int) * 2) = (numStep m (isOne c) : Int) := by
  rw [isOne_dec] at t
  rw [t, IntKind.wrap_u64]
  unfold numStep bv
  simp
  omega
/-- a sign laid behind a text -/
theorem str_snoc (l : List UInt8) (k : Nat) (c : UInt8) (h : l[k]? = some c) : (ByteArray.mk (l.take k).toArray ++ ByteArray.mk #[c]) = ByteArray.mk (l.take (k + 1)).toArray := by
  apply ByteArray.ext
  rw [ByteArray.data_append]
  apply Array.toList_inj.1
  rw [Array.toList_append]
  show l.take k ++ [c] = l.take (k + 1)
  rw [List.take_add_one, h]
  rfl
theorem turn_get (s : ByteArray) (p : Int) (k : Nat) (h : k < s.size) : (row (turn (read s.data.toList) p))[k]? = some (sign (!(((s[k].toNat : Int) == 49) == ((k : Int) == p)))) := by
  have hk : k < s.data.toList.length := by simpa using h
  have e0 : s.data.toList[k]? = some s[k] := by rw [List.getElem?_eq_getElem hk]; rfl
  rw [isOne_dec]
  unfold row turn
  by_cases hp : 0 ≤ p
  · obtain ⟨q, rfl⟩ := Int.eq_ofNat_of_zero_le hp
    rw [if_pos hp, Int.toNat_natCast, List.getElem?_map, List.getElem?_modify]
    unfold read
    rw [List.getElem?_map, e0, Option.map_some]
    by_cases e : q = k
    · subst e
      generalize isOne s[q] = b
      cases b <;> simp
    · have e' : ¬ ((k : Int) = (q : Int)) := by omega
      have e2 : ((k : Int) == (q : Int)) = false := by simp; omega
      rw [e2]
      generalize isOne s[k] = b
      cases b <;> simp [e]
  · rw [if_neg hp, List.getElem?_map]
    unfold read
    rw [List.getElem?_map, e0, Option.map_some]
    have e2 : ((k : Int) == p) = false := by simp; omega
    rw [e2]
    generalize isOne s[k] = b
    cases b <;> simp
theorem take_row_all (l : List UInt8) (k n : Nat) (h : l.length = n) (g : n ≤ k) : l.take k = l := List.take_of_length_le (by omega)
theorem length_row_turn (s : ByteArray) (p : Int) : (row (turn (read s.data.toList) p)).length = s.size := by
  rw [length_row, length_turn, length_read]; simp
theorem both_get (s t : ByteArray) (k : Nat) (h : k < s.size) (g : k < t.size) : (row (both (read s.data.toList) (read t.data.toList)))[k]? = some (sign (isOne s[k] && isOne t[k])) := by
  have hk : k < s.data.toList.length := by simpa using h
  have gk : k < t.data.toList.length := by simpa using g
  have e0 : s.data.toList[k]? = some s[k] := by rw [List.getElem?_eq_getElem hk]; rfl
  have e1 : t.data.toList[k]? = some t[k] := by rw [List.getElem?_eq_getElem gk]; rfl
  unfold row both read
  rw [List.getElem?_map, List.getElem?_zipWith, List.getElem?_map, List.getElem?_map, e0, e1]
  rfl
theorem length_row_both (s t : ByteArray) : (row (both (read s.data.toList) (read t.data.toList))).length = min s.size t.size := by
  rw [length_row, length_both, length_read, length_read]; simp
theorem ofB_get (n K k : Nat) (h : k < K) : (row (ofB n K))[k]? = some (sign (n.testBit (K - 1 - k))) := by
  unfold row ofB
  rw [List.getElem?_map, List.getElem?_map, List.getElem?_range h]
  rfl
theorem bit_dec (n j : Nat) (h : n < 18446744073709551616) : (bits .and .u64 ((n : Int) / 2 ^ j) 1 == 1) = n.testBit j := by
  have e : ((n : Int) / 2 ^ j) = ((n / 2 ^ j : Nat) : Int) := by simp
  have e1 : (1 : Int) = ((1 : Nat) : Int) := rfl
  have hlt : n / 2 ^ j < 18446744073709551616 := Nat.lt_of_le_of_lt (Nat.div_le_self _ _) h
  rw [e, e1, u64_and_nat _ _ hlt (by decide), nat_mask1, Nat.testBit_eq_decide_div_mod_eq, Bool.eq_iff_iff, beq_iff_eq, decide_eq_true_iff]
  omega
theorem str_app (x y : List UInt8) : (ByteArray.mk x.toArray ++ ByteArray.mk y.toArray) = ByteArray.mk (x ++ y).toArray := by
  apply ByteArray.ext
  rw [ByteArray.data_append]
  simp
theorem okAll_iff (l : List UInt8) : (okAll l == (l == row (read l))) = true := by
  rw [beq_iff_eq, Bool.eq_iff_iff, beq_iff_eq]
  unfold okAll row read
  rw [List.map_map, List.all_eq_true]
  constructor
  · intro h
    conv => lhs; rw [← List.map_id l]
    apply List.map_congr_left
    intro c hc
    have hs := h c hc
    unfold signOk at hs
    show c = sign (isOne c)
    rw [Bool.or_eq_true, beq_iff_eq, beq_iff_eq] at hs
    rcases hs with rfl | rfl <;> rfl
  · intro h c hc
    rw [h] at hc
    obtain ⟨d, _, rfl⟩ := List.mem_map.1 hc
    show signOk (sign (isOne d)) = true
    cases isOne d <;> rfl
theorem read_drop (s : ByteArray) (k : Nat) (h : k < s.size) : (read s.data.toList).drop k = isOne s[k] :: (read s.data.toList).drop (k + 1) := by
  have hk : k < s.data.toList.length := by simpa using h
  unfold read
  rw [← List.map_drop, ← List.map_drop, List.drop_eq_getElem_cons hk, List.map_cons]
  rfl
end Go.Proofs.YtfnbkehabadpmabDoor.Bm
