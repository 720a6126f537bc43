/- Plain mathematics of frames: what is written is read; cut off it is too short. -/
import Derived.Test.YtfnbkehabadpmabDoorFm
namespace Go.Proofs.YtfnbkehabadpmabDoor.Fm
open Go.Proofs.YtfnbkehabadpmabDoor.Bm
theorem s0 (n : Nat) (r : Bool) (d : List UInt8) (m : List Bool) : (body0 false n r d ++ m).getD 0 false = false := by rw [std_form]; rfl
theorem s1 (n : Nat) (r : Bool) (d : List UInt8) (m : List Bool) : cut (body0 false n r d ++ m) 1 11 = ofB n 11 := by
  rw [std_form]; exact cut_app [false] (ofB n 11) _ 1 11 rfl (length_ofB _ _)
theorem s12 (n : Nat) (r : Bool) (d : List UInt8) (m : List Bool) : (body0 false n r d ++ m).getD 12 false = r := by
  rw [std_form]; exact getD_app (false :: ofB n 11) r _ 12 (by simp [length_ofB])
theorem s13 (n : Nat) (r : Bool) (d : List UInt8) (m : List Bool) : (body0 false n r d ++ m).getD 13 false = false := by
  rw [std_form]
  have h := getD_app (false :: ofB n 11 ++ [r]) false (false :: (ofB d.length 4 ++ (fromB d ++ m))) 13 (by simp [length_ofB])
  rw [List.append_assoc] at h
  exact h
theorem s15 (n : Nat) (r : Bool) (d : List UInt8) (m : List Bool) : cut (body0 false n r d ++ m) 15 4 = ofB d.length 4 := by
  rw [std_form]
  have h := cut_app (false :: ofB n 11 ++ [r, false, false]) (ofB d.length 4) (fromB d ++ m) 15 4 (by simp [length_ofB]) (length_ofB _ _)
  rw [List.append_assoc] at h
  exact h
theorem s19 (n : Nat) (r : Bool) (d : List UInt8) (m : List Bool) : cut (body0 false n r d ++ m) 19 (8 * d.length) = fromB d := by
  rw [std_form]
  have h := cut_app (false :: ofB n 11 ++ (r :: false :: false :: ofB d.length 4)) (fromB d) m 19 (8 * d.length) (by simp [length_ofB]) (length_fromB _)
  rw [List.append_assoc] at h
  exact h
theorem e0 (n : Nat) (r : Bool) (d : List UInt8) (m : List Bool) : (body0 true n r d ++ m).getD 0 false = false := by rw [ext_form]; rfl
theorem e1 (n : Nat) (r : Bool) (d : List UInt8) (m : List Bool) : cut (body0 true n r d ++ m) 1 11 = ofB (n / 262144) 11 := by
  rw [ext_form]; exact cut_app [false] (ofB (n / 262144) 11) _ 1 11 rfl (length_ofB _ _)
theorem e12 (n : Nat) (r : Bool) (d : List UInt8) (m : List Bool) : (body0 true n r d ++ m).getD 12 false = true := by
  rw [ext_form]; exact getD_app (false :: ofB (n / 262144) 11) true _ 12 (by simp [length_ofB])
theorem e13 (n : Nat) (r : Bool) (d : List UInt8) (m : List Bool) : (body0 true n r d ++ m).getD 13 false = true := by
  rw [ext_form]
  have h := getD_app (false :: ofB (n / 262144) 11 ++ [true]) true (ofB n 18 ++ (r :: false :: false :: (ofB d.length 4 ++ (fromB d ++ m)))) 13 (by simp [length_ofB])
  rw [List.append_assoc] at h
  exact h
theorem e14 (n : Nat) (r : Bool) (d : List UInt8) (m : List Bool) : cut (body0 true n r d ++ m) 14 18 = ofB n 18 := by
  rw [ext_form]
  have h := cut_app (false :: ofB (n / 262144) 11 ++ [true, true]) (ofB n 18) (r :: false :: false :: (ofB d.length 4 ++ (fromB d ++ m))) 14 18 (by simp [length_ofB]) (length_ofB _ _)
  rw [List.append_assoc] at h
  exact h
theorem e32 (n : Nat) (r : Bool) (d : List UInt8) (m : List Bool) : (body0 true n r d ++ m).getD 32 false = r := by
  rw [ext_form]
  have h := getD_app (false :: ofB (n / 262144) 11 ++ (true :: true :: ofB n 18)) r (false :: false :: (ofB d.length 4 ++ (fromB d ++ m))) 32 (by simp [length_ofB])
  rw [List.append_assoc] at h
  exact h
theorem e35 (n : Nat) (r : Bool) (d : List UInt8) (m : List Bool) : cut (body0 true n r d ++ m) 35 4 = ofB d.length 4 := by
  rw [ext_form]
  have h := cut_app (false :: ofB (n / 262144) 11 ++ (true :: true :: (ofB n 18 ++ [r, false, false]))) (ofB d.length 4) (fromB d ++ m) 35 4 (by simp [length_ofB]) (length_ofB _ _)
  simp only [List.append_assoc, List.cons_append, List.nil_append] at h ⊢
  exact h
theorem e39 (n : Nat) (r : Bool) (d : List UInt8) (m : List Bool) : cut (body0 true n r d ++ m) 39 (8 * d.length) = fromB d := by
  rw [ext_form]
  have h := cut_app (false :: ofB (n / 262144) 11 ++ (true :: true :: (ofB n 18 ++ (r :: false :: false :: ofB d.length 4)))) (fromB d) m 39 (8 * d.length) (by simp [length_ofB]) (length_fromB _)
  simp only [List.append_assoc, List.cons_append] at h ⊢
  exact h
theorem std_num (n : Nat) (h : n < 2048) : num (ofB n 11) = n := by rw [num_ofB 11 (by decide)]; exact Nat.mod_eq_of_lt h
theorem ext_num (n : Nat) (h : n < 536870912) : num (ofB (n / 262144) 11) * 262144 + num (ofB n 18) = n := by
  rw [num_ofB 11 (by decide), num_ofB 18 (by decide)]
  have h1 : n / 262144 % 2 ^ 11 = n / 262144 := Nat.mod_eq_of_lt (by omega)
  have h2 : (2 : Nat) ^ 18 = 262144 := by decide
  rw [h1, h2]
  omega
theorem count_bytes (r : Bool) (d : List UInt8) (h8 : d.length ≤ 8) (hr : r = true → d = []) : (if r then 0 else min (num (ofB d.length 4)) 8) = d.length := by
  cases r
  · exact len4 d h8
  · rw [hr rfl]; rfl
theorem parse_body {x : Bool} {n : Nat} {r : Bool} {d : List UInt8} (h : isF x n r d = true) (m : List Bool) : parse (body0 x n r d ++ m) = ((x, n, r, d), (body0 x n r d).length, 0) := by
  obtain ⟨h1, h8, hr⟩ := isF_parts h
  have hl := length_body0 x n r d
  cases x
  · have hl' : (body0 false n r d ++ m).length = 19 + 8 * d.length + m.length := by rw [List.length_append, hl]; simp
    rw [parse_std _ n r d.length (by omega) (s0 n r d m) (s13 n r d m) (s12 n r d m) (by rw [s1]; exact std_num n (top_std h1)) (by rw [s15]; exact count_bytes r d h8 hr)]
    unfold parseD
    rw [if_neg (by omega), s19, bytes_fromB, hl]
    rfl
  · have hl' : (body0 true n r d ++ m).length = 39 + 8 * d.length + m.length := by rw [List.length_append, hl]; simp
    rw [parse_ext _ n r d.length (by omega) (e0 n r d m) (e13 n r d m) (e12 n r d m) (e32 n r d m) (by rw [e1, e14]; exact ext_num n (top_ext h1)) (by rw [e35]; exact count_bytes r d h8 hr)]
    unfold parseD
    rw [if_neg (by omega), e39, bytes_fromB, hl]
    rfl
theorem getD_take (bs : List Bool) (i k : Nat) (h : i < k) : (bs.take k).getD i false = bs.getD i false := by
  rw [List.getD_eq_getElem?_getD, List.getD_eq_getElem?_getD, List.getElem?_take_of_lt h]
theorem cut_take (bs : List Bool) (i l k : Nat) (h : i + l ≤ k) : cut (bs.take k) i l = cut bs i l := by
  unfold cut
  rw [List.drop_take, List.take_take]
  congr 1
  omega
theorem parse_cut {x : Bool} {n : Nat} {r : Bool} {d : List UInt8} (h : isF x n r d = true) (k : Nat) (hk : k < (body0 x n r d).length) : parse ((body0 x n r d).take k) = none_ 10 := by
  obtain ⟨h1, h8, hr⟩ := isF_parts h
  have hl := length_body0 x n r d
  have hlt : ((body0 x n r d).take k).length = k := by rw [List.length_take]; omega
  unfold parse
  rw [hlt]
  by_cases c1 : k < 1
  · rw [if_pos c1]
  rw [if_neg c1, getD_take _ 0 k (by omega)]
  have z0 : (body0 x n r d).getD 0 false = false := by
    have := s0 n r d []; have := e0 n r d []; rw [List.append_nil] at *; cases x <;> assumption
  rw [z0, if_neg (by decide)]
  by_cases c2 : k < 14
  · rw [if_pos c2]
  rw [if_neg c2, getD_take _ 13 k (by omega), getD_take _ 12 k (by omega)]
  cases x
  · have a13 := s13 n r d []
    have a12 := s12 n r d []
    have a15 := s15 n r d []
    rw [List.append_nil] at a13 a12 a15
    rw [a13, a12, if_neg (by decide)]
    unfold parseL
    rw [hlt]
    by_cases c3 : k < 15 + 4
    · rw [if_pos c3]
    rw [if_neg c3, cut_take _ 15 4 k (by omega), a15, count_bytes r d h8 hr]
    unfold parseD
    simp only [Bool.false_eq_true, if_false] at hl
    rw [hlt, if_pos (by omega)]
  · have a13 := e13 n r d []
    have a12 := e12 n r d []
    have a32 := e32 n r d []
    have a35 := e35 n r d []
    rw [List.append_nil] at a13 a12 a32 a35
    rw [a13, a12, if_pos rfl, if_pos rfl]
    by_cases c3 : k < 33
    · rw [if_pos c3]
    rw [if_neg c3, getD_take _ 32 k (by omega), a32]
    unfold parseL
    rw [hlt]
    by_cases c4 : k < 35 + 4
    · rw [if_pos c4]
    rw [if_neg c4, cut_take _ 35 4 k (by omega), a35, count_bytes r d h8 hr]
    unfold parseD
    simp only [if_true] at hl
    rw [hlt, if_pos (by omega)]
theorem arb_take (x : Bool) (n : Nat) (r : Bool) (d : List UInt8) : (body0 x n r d).take (arb0 x n r).length = arb0 x n r := by
  unfold body0
  rw [List.take_append, Nat.sub_self, List.take_zero, List.append_nil, List.take_of_length_le (Nat.le_refl _)]
end Go.Proofs.YtfnbkehabadpmabDoor.Fm
