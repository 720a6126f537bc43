/- Layer 2's calls at rows that were made of bits; the law's own 'known' and 'turned'. -/
import Derived.Test.YtcgpnnmceijmjabX7
namespace Go.Proofs.Ytcgpnnmceijmjab
open Go.RowKit
theorem data_row (bs : List Bool) : Bm.read (ByteArray.mk (Bm.row bs).toArray).data.toList = bs := by
  show Bm.read (Bm.row bs).toArray.toList = bs
  rw [List.toList_toArray, Bm.read_row]
theorem size_row (bs : List Bool) : (ByteArray.mk (Bm.row bs).toArray).size = bs.length := by rw [size_str, Bm.length_row]
theorem stuff_row (bs : List Bool) (w : World) (h : bs.length ≤ 1048576) :
    Calls Try.prog 6 #[.string ⟨(Bm.row bs).toArray⟩] w fun e w' => e = .returned (.string ⟨(Bm.row (Sm.stuff bs)).toArray⟩) ∧ Below w.heap.size w w' :=
  (stuff_any _ w (by rw [size_row]; exact h)).mono fun e w' ⟨he, hw⟩ => ⟨he.trans (by rw [data_row]), hw⟩
theorem unstuff_row (bs : List Bool) (w : World) (h : bs.length ≤ 1048576) :
    Calls Try.prog 5 #[.string ⟨(Bm.row bs).toArray⟩] w fun e w' => e = .returned (.tuple #[.string ⟨(Bm.row (Sm.unstuff bs).1).toArray⟩, .int .i64 (Sm.unstuff bs).2]) ∧ Below w.heap.size w w' :=
  (unstuff_any _ w (by rw [size_row]; exact h)).mono fun e w' ⟨he, hw⟩ => ⟨he.trans (by rw [data_row]), hw⟩
theorem next_row (bs : List Bool) (w : World) (h : bs.length ≤ 1048576) :
    Calls Try.prog 7 #[.string ⟨(Bm.row bs).toArray⟩] w fun e w' => e = .returned (.int .i64 (Sm.next bs)) ∧ Below w.heap.size w w' :=
  (next_any _ w (by rw [size_row]; exact h)).mono fun e w' ⟨he, hw⟩ => ⟨he.trans (by rw [data_row]), hw⟩
theorem most_nat (n : Nat) (x : Int) (hx : x = (n : Int)) (h : n ≤ 10000) (w : World) :
    Calls Try.prog 8 #[.int .i64 x] w fun e w' => e = .returned (.int .i64 (Sm.most n)) ∧ w' = w := by
  subst hx
  have := most_any (n : Int) w
  rw [Sm.hold_nat n h] at this
  exact this
theorem ret_tup {a b : List UInt8} {x y : Int} (h : a = b) (k : x = y) : Ending.returned (.tuple #[.string ⟨a.toArray⟩, .int .i64 x]) = .returned (.tuple #[.string ⟨b.toArray⟩, .int .i64 y]) := by rw [h, k]

theorem k_un (w : World) : Calls Try.prog 5 #[.string ⟨#[48, 48, 48, 48, 48, 49]⟩] w fun e w' => e = .returned (.tuple #[.string ⟨#[48, 48, 48, 48, 48]⟩, .int .i64 (-1)]) ∧ Below w.heap.size w w' :=
  (unstuff_any _ w (by decide)).mono fun e w' ⟨he, hw⟩ => ⟨he.trans (ret_tup (b := [48, 48, 48, 48, 48]) (by decide +kernel) (by decide +kernel)), hw⟩
theorem k_un2 (w : World) : Calls Try.prog 5 #[.string ⟨#[48, 48, 48, 48, 48, 48, 49]⟩] w fun e w' => e = .returned (.tuple #[.string ⟨#[48, 48, 48, 48, 48]⟩, .int .i64 5]) ∧ Below w.heap.size w w' :=
  (unstuff_any _ w (by decide)).mono fun e w' ⟨he, hw⟩ => ⟨he.trans (ret_tup (b := [48, 48, 48, 48, 48]) (by decide +kernel) (by decide +kernel)), hw⟩
theorem k_st (w : World) : Calls Try.prog 6 #[.string ⟨#[48, 48, 48, 48, 48]⟩] w fun e w' => e = .returned (.string ⟨#[48, 48, 48, 48, 48, 49]⟩) ∧ Below w.heap.size w w' :=
  (stuff_any _ w (by decide)).mono fun e w' ⟨he, hw⟩ => ⟨he.trans (ret_str (b := [48, 48, 48, 48, 48, 49]) (by decide +kernel)), hw⟩
theorem k_n1 (w : World) : Calls Try.prog 7 #[.string ⟨#[48, 48, 48, 48, 48]⟩] w fun e w' => e = .returned (.int .i64 1) ∧ Below w.heap.size w w' :=
  (next_any _ w (by decide)).mono fun e w' ⟨he, hw⟩ => ⟨he.trans (ret_int (by decide +kernel)), hw⟩
theorem k_n2 (w : World) : Calls Try.prog 7 #[.string ⟨#[49, 49, 49, 49, 49]⟩] w fun e w' => e = .returned (.int .i64 0) ∧ Below w.heap.size w w' :=
  (next_any _ w (by decide)).mono fun e w' ⟨he, hw⟩ => ⟨he.trans (ret_int (by decide +kernel)), hw⟩
theorem k_n3 (w : World) : Calls Try.prog 7 #[.string ⟨#[48, 49]⟩] w fun e w' => e = .returned (.int .i64 (-1)) ∧ Below w.heap.size w w' :=
  (next_any _ w (by decide)).mono fun e w' ⟨he, hw⟩ => ⟨he.trans (ret_int (by decide +kernel)), hw⟩
theorem k_n4 (w : World) : Calls Try.prog 7 #[.string ⟨#[48, 48, 48, 48, 48, 48]⟩] w fun e w' => e = .returned (.int .i64 (-2)) ∧ Below w.heap.size w w' :=
  (next_any _ w (by decide)).mono fun e w' ⟨he, hw⟩ => ⟨he.trans (ret_int (by decide +kernel)), hw⟩
theorem k_most (w : World) : Calls Try.prog 8 #[.int .i64 5] w fun e w' => e = .returned (.int .i64 6) ∧ w' = w :=
  (most_any 5 w).mono fun e w' ⟨he, hw⟩ => ⟨he.trans (ret_int (by decide +kernel)), hw⟩

set_option maxRecDepth 100000 in
set_option maxHeartbeats 1000000 in
theorem known2_any (w : World) : Calls Try.prog 4 #[] w fun e w' => e = .returned (.bool true) ∧ Below w.heap.size w w' := by
  go_enter Try.func4, Try.ntmps4
  go_wp2_with fail
  refine (k_un _).mono ?_; rintro e w1 ⟨rfl, hb1⟩
  go_wp2_with fail
  refine (k_un2 _).mono ?_; rintro e w2 ⟨rfl, hb2⟩
  go_wp2_with fail
  refine (k_st _).mono ?_; rintro e w3 ⟨rfl, hb3⟩
  go_wp2_with fail
  refine (k_n1 _).mono ?_; rintro e w4 ⟨rfl, hb4⟩
  go_wp2_with fail
  refine (k_n2 _).mono ?_; rintro e w5 ⟨rfl, hb5⟩
  go_wp2_with fail
  refine (k_n3 _).mono ?_; rintro e w6 ⟨rfl, hb6⟩
  go_wp2_with fail
  refine (k_n4 _).mono ?_; rintro e w7 ⟨rfl, hb7⟩
  go_wp2_with fail
  refine (k_most _).mono ?_; rintro e w8 ⟨rfl, rfl⟩
  go_wp2_with fail
  go_ret
  exact ⟨rfl, below_join (below_join (below_join (below_join (below_join (below_join hb1 hb2) hb3) hb4) hb5) hb6) hb7⟩
end Go.Proofs.Ytcgpnnmceijmjab
