/- MacSums: a frame with another sum is met at the third bit behind it, and nobody says that it came; no condition. -/
import Derived.Test.YthappkhiiopfgabDoorMh
import Derived.ProofKit
import Derived.OpenShut
namespace Go.Proofs.YthappkhiiopfgabDoor.macSums
open Go.ChangeShapes Go.WideShapes Go.ChangeAt Go.RowKit
set_option linter.unusedVariables false
variable {At : World → Nat → (Nat → Prop) → Mm.St → Prop}
def OfSpec : Prop := ∀ (n width : Nat) (w : World), n < 65536 → width ≤ 15 → Calls Tryd.prog 19 #[.int .u64 (n : Int), .int .i64 (width : Int)] w fun e w' => e = .returned (.string ⟨(Bm.row (Bm.ofB n width)).toArray⟩) ∧ Below w.heap.size w w'
def CrcSpec : Prop := ∀ (bs : List Bool) (w : World), bs.length ≤ 1000 → Calls Tryd.prog 21 #[.string ⟨(Bm.row bs).toArray⟩] w fun e w' => e = .returned (.int .u16 (Bm.crc bs : Int)) ∧ Below w.heap.size w w'
def StuffSpec : Prop := ∀ (bs : List Bool) (w : World), bs.length ≤ 1000 → Calls Tryd.prog 20 #[.string ⟨(Bm.row bs).toArray⟩] w fun e w' => e = .returned (.string ⟨(Bm.row (Sm.stuff bs)).toArray⟩) ∧ Below w.heap.size w w'
def fn (n : Nat) : Cm.Fr := (false, n, false, [])
/-- the frame's bits, another sum behind them, and three bits more -/
def plainRow (n c : Nat) : List Bool := Fm.body0 false n false [] ++ Bm.ofB c 15
def rowS (n c : Nat) : List Bool := Sm.stuff (plainRow n c) ++ [true, false, true]
theorem fn_is {n : Nat} (h : n < 2048) : Mm.isFr (fn n) = true := by
  unfold Mm.isFr fn Fm.isF Fm.top
  simp [h]
theorem body_fn (n : Nat) : Fm.body0 false n false [] = false :: (Bm.ofB n 11 ++ [false, false, false, false, false, false, false]) := by
  unfold Fm.body0 Fm.arb0
  simp [Bm.fromB]
  decide
theorem rowS_len (n c : Nat) : (rowS n c).length = (Sm.stuff (plainRow n c)).length + 3 := by unfold rowS; rw [List.length_append]; rfl
theorem rowS_dec {n c : Nat} (hn : n < 2048) (hc : c < 32768) (hne : c ≠ Bm.crc (Fm.body0 false n false [])) : Cm.dec (rowS n c ++ Cm.ones 7) = (Cm.noF, (Sm.stuff (plainRow n c)).length + 2, 40) := by
  have h := Cm.dec_sum (x := false) (n := n) (r := false) (d := []) (fn_is hn) c hc hne false []
  rw [List.append_nil] at h
  unfold rowS
  rw [List.append_assoc]
  exact h
theorem rowS_good {n c : Nat} (hn : n < 2048) (hc : c < 32768) (hne : c ≠ Bm.crc (Fm.body0 false n false [])) (k : Nat) (hk : k + 1 ≤ (rowS n c).length) : Mm.Good ((rowS n c).take k) := by
  rw [rowS_len] at hk
  have h := Cm.dB_cut (rowS n c ++ Cm.ones 7) Cm.Rd.new 0 k (Or.inr ?_) (by rw [List.length_append, rowS_len]; omega)
  · rw [List.take_append_of_le_length (by rw [rowS_len]; omega)] at h
    unfold Mm.Good
    show (Cm.dB Cm.Rd.new 0 ((rowS n c).take k)).2.2 = 10
    rw [h]
  · have h2 := rowS_dec hn hc hne
    unfold Cm.dec at h2
    rw [h2]
    exact ⟨by dsimp only; omega, (show 40 ≠ 0 by decide)⟩
theorem rowS_take {n c k : Nat} (hk : k + 1 ≤ (rowS n c).length) : (rowS n c).take (k + 1) = (rowS n c).take k ++ [(rowS n c).getD k true] := Mm.take_succ_getD _ _ (by omega)
theorem rowS_code {n c : Nat} (hn : n < 2048) (hc : c < 32768) (hne : c ≠ Bm.crc (Fm.body0 false n false [])) (k : Nat) (hk : k + 2 ≤ (rowS n c).length) : Mm.code ((rowS n c).take k) ((rowS n c).getD k true) = 0 := by
  have hg := rowS_good hn hc hne (k + 1) hk
  rw [rowS_take (by omega)] at hg
  exact (Mm.good_snoc (rowS_good hn hc hne k (by omega))).1 hg
theorem rowS_last {n c : Nat} (hn : n < 2048) (hc : c < 32768) (hne : c ≠ Bm.crc (Fm.body0 false n false [])) (k : Nat) (hk : k + 1 = (rowS n c).length) : Mm.code ((rowS n c).take k) ((rowS n c).getD k true) = 40 := by
  have hg := rowS_good hn hc hne k (by omega)
  have h := Mm.good_one hg ((rowS n c).getD k true)
  rw [← rowS_take (by omega), hk, List.take_length] at h
  have h40 : (Cm.dec (rowS n c)).2.2 = 40 := by
    have h2 := rowS_dec hn hc hne
    by_cases h10 : (Cm.dec (rowS n c)).2.2 = 10
    · have h3 := Mm.good_dec (a := rowS n c) h10 (Cm.ones 7)
      have h4 := Cm.dB_place (Cm.ones 7) (Mm.feed (rowS n c)) (rowS n c).length
      rw [← h3, h2, rowS_len] at h4
      have h5 := h4.1
      dsimp only at h5
      omega
    · have h3 := Cm.dB_more (rowS n c) Cm.Rd.new 0 (Cm.ones 7) h10
      have h6 : Cm.dec (rowS n c ++ Cm.ones 7) = Cm.dec (rowS n c) := h3
      rw [← h6, h2]
  rw [h] at h40
  rcases Mm.code_cases ((rowS n c).take k) ((rowS n c).getD k true) with q | q | q | q | q
  · rw [if_pos q] at h40; cases h40
  · rw [if_neg (by rw [q]; decide), if_pos q] at h40; cases h40
  · rw [if_neg (by rw [q]; decide), if_neg (by rw [q]; decide)] at h40; exact h40
  · rw [if_neg (by rw [q]; decide), if_neg (by rw [q]; decide)] at h40; exact h40
  · exact q
/-- what the reader holds -/
theorem rowS_t {n c : Nat} (hn : n < 2048) (k : Nat) (hk : k < (rowS n c).length) : (Mm.feed ((rowS n c).take k)).t = (if k < (Sm.stuff (plainRow n c)).length then none else some (k - (Sm.stuff (plainRow n c)).length)) ∧ (¬ k < (Sm.stuff (plainRow n c)).length → ∃ q, Mm.feed ((rowS n c).take k) = ⟨q, plainRow n c, some (fn n, (Fm.body0 false n false []).length), some (k - (Sm.stuff (plainRow n c)).length)⟩) := by
  by_cases h : k < (Sm.stuff (plainRow n c)).length
  · refine ⟨?_, fun q => absurd h q⟩
    rw [if_pos h]
    have h1 := Mm.feed_in (f := fn n) (fn_is hn) (Bm.ofB c 15) (Bm.length_ofB _ _) k h
    unfold rowS
    rw [List.take_append_of_le_length (Nat.le_of_lt h)]
    exact h1
  · rw [rowS_len] at hk
    obtain ⟨q, hq⟩ := Mm.feed_tail (f := fn n) (fn_is hn) (Bm.ofB c 15) (Bm.length_ofB _ _) ([true, false, true].take (k - (Sm.stuff (plainRow n c)).length))
    have e : (rowS n c).take k = Sm.stuff (plainRow n c) ++ [true, false, true].take (k - (Sm.stuff (plainRow n c)).length) := by
      unfold rowS
      rw [List.take_append, List.take_of_length_le (by omega)]
    have hl : ([true, false, true].take (k - (Sm.stuff (plainRow n c)).length)).length = k - (Sm.stuff (plainRow n c)).length := by
      rw [List.length_take]
      show min _ 3 = _
      omega
    rw [hl] at hq
    have hq2 : Mm.feed ((rowS n c).take k) = ⟨q, plainRow n c, some (fn n, (Fm.body0 false n false []).length), some (k - (Sm.stuff (plainRow n c)).length)⟩ := by rw [e]; exact hq
    refine ⟨by rw [if_neg h, hq2], fun _ => ⟨q, hq2⟩⟩
def ss (n c i : Nat) : Mm.St := if i = 0 then Mm.idS false Cm.noF [] false 0 0 else ⟨.inFr, 0, false, false, false, false, Cm.noF, (rowS n c).take i, 0, 0⟩
theorem rowS_first (n c : Nat) : (rowS n c).take 1 = [false] ∧ (rowS n c).getD 0 true = false := by
  obtain ⟨a, ha⟩ : ∃ a, Sm.stuff (plainRow n c) = false :: a := by
    unfold plainRow
    rw [body_fn]
    exact Mm.stuff_false _
  unfold rowS
  rw [ha]
  exact ⟨rfl, rfl⟩
theorem ss_bit {n c : Nat} (hn : n < 2048) (hc : c < 32768) (hne : c ≠ Bm.crc (Fm.body0 false n false [])) (k : Nat) (hk : k + 2 ≤ (rowS n c).length) : Mm.sample (ss n c k) ((rowS n c).getD k true) = (ss n c (k + 1), if k = 0 then [⟨6, Cm.noF, 0⟩] else []) := by
  unfold ss
  rw [if_neg (Nat.succ_ne_zero k)]
  by_cases h0 : k = 0
  · subst h0
    rw [if_pos rfl, if_pos rfl, (rowS_first n c).2, (rowS_first n c).1]
    rfl
  · rw [if_neg h0, if_neg h0]
    have hcd := rowS_code hn hc hne k hk
    have ht := (rowS_t (c := c) hn (k + 1) (by omega)).1
    unfold Mm.sample
    dsimp only
    rw [if_neg (by decide)]
    unfold Mm.hearing
    dsimp only
    rw [if_neg (by decide), hcd, if_neg (by simp), ← rowS_take (by omega), ht, if_neg]
    split
    · intro k; cases k
    · intro q
      injection q with q
      rw [rowS_len] at hk
      omega
def fe (b : List Bool) : Mm.St := ⟨.flag, 6, false, false, false, false, Cm.noF, b, 0, 1⟩
theorem ss_last {n c : Nat} (hn : n < 2048) (hc : c < 32768) (hne : c ≠ Bm.crc (Fm.body0 false n false [])) (k : Nat) (hk : k + 1 = (rowS n c).length) : Mm.sample (ss n c k) ((rowS n c).getD k true) = (fe ((rowS n c).take k), [⟨5, Cm.noF, 40⟩]) := by
  have h0 : k ≠ 0 := by rw [rowS_len] at hk; omega
  unfold ss
  rw [if_neg h0]
  have hcd := rowS_last hn hc hne k hk
  unfold Mm.sample
  dsimp only
  rw [if_neg (by decide)]
  unfold Mm.hearing
  dsimp only
  rw [if_neg (by decide), hcd, if_pos (by decide)]
  rfl
theorem ss_drive {n c : Nat} (hn : n < 2048) (hc : c < 32768) (hne : c ≠ Bm.crc (Fm.body0 false n false [])) (k : Nat) (hk : k < (rowS n c).length) (h0 : k ≠ 0) : (if Mm.drive (ss n c k) then (49 : Int) else 48) = 49 := by
  have hd : Mm.drive (ss n c k) = true := by
    unfold ss
    rw [if_neg h0]
    unfold Mm.drive
    dsimp only
    rw [if_neg (by decide)]
    obtain ⟨h1, h2⟩ := rowS_t (c := c) hn k hk
    by_cases h : k < (Sm.stuff (plainRow n c)).length
    · rw [h1, if_pos h]; rfl
    · obtain ⟨q, hq⟩ := h2 h
      rw [hq]
      dsimp only
      have hr : Cm.right (plainRow n c) (Fm.body0 false n false []).length = false := by
        unfold plainRow
        rw [Cm.right_plain _ _ hc, beq_eq_false_iff_ne]
        exact hne
      rw [hr]
      simp
  rw [hd]
  rfl
theorem rowS_short (n c : Nat) : (rowS n c).length ≤ 300 := by
  rw [rowS_len]
  have h1 := Sm.stuff_len_le (plainRow n c)
  have h2 : (plainRow n c).length = 34 := by unfold plainRow; rw [body_fn]; simp [Bm.length_ofB]
  rw [h2] at h1
  have h3 : Sm.most 34 ≤ 200 := by decide
  omega
theorem xor_ne (a d : Nat) (ha : a < 32768) (hd : d < 32768) (h0 : d ≠ 0) : a ^^^ d < 32768 ∧ a ^^^ d ≠ a := by
  refine ⟨Nat.xor_lt_two_pow (n := 15) ha hd, fun e => h0 ?_⟩
  have h : a ^^^ (a ^^^ d) = a ^^^ a := by rw [e]
  rw [← Nat.xor_assoc, Nat.xor_self, Nat.zero_xor] at h
  exact h
theorem and_low (b : Nat) (hb : b < 65536) : bits .and .u16 (b : Int) 32767 = ((b % 32768 : Nat) : Int) := by
  have e2 : (32767 : Int) = ((32767 : Nat) : Int) := rfl
  have e3 : b &&& 32767 = b % 32768 := Nat.and_two_pow_sub_one_eq_mod b 15
  rw [e2, u16_and_nat _ _ (by omega) (by decide), e3]
theorem cat (x y : List Bool) : (ByteArray.mk (Bm.row x).toArray ++ ByteArray.mk (Bm.row y).toArray) = ByteArray.mk (Bm.row (x ++ y)).toArray := by
  apply ByteArray.ext
  rw [ByteArray.data_append]
  simp [Bm.row]
set_option maxRecDepth 100000 in
set_option maxHeartbeats 4000000 in
theorem walkN (S : MacSpec At) (HK : AckSpec) (HO : OfSpec) (HCr : CrcSpec) (HSt : StuffSpec) (i b : Nat) (hi : i < 65536) (hb : b < 65536) (W : World) (hT : Tab W) :
    Calls Tryd.prog 6 #[.int .u16 (i : Int), .int .u16 (b : Int)] W fun e w' => e = .returned (.bool true) ∧ Below W.heap.size W w' := by
  have hk := known7_any S HK W hT
  have HT : Hid (Tab W) := hT
  have hD := and_low b hb
  obtain ⟨D, hDe⟩ : ∃ D, b % 32768 = D := ⟨_, rfl⟩
  have hDl : D < 32768 := by omega
  rw [hDe] at hD
  obtain ⟨n, hn⟩ : ∃ n : Nat, (i : Int) % 2048 = (n : Int) := ⟨i % 2048, by omega⟩
  have hnl : n < 2048 := by omega
  clear hT HK hDe
  by_cases hD0 : D = 0
  · have g0 : ((D : Int) == 0) = true := by rw [beq_iff_eq]; omega
    go_enter Tryd.func6, Tryd.ntmps6
    go_wp2_with fail
    refine hk.mono ?_
    rintro e w1 ⟨rfl, hb1⟩
    clear hD0
    go_wp2
    go_ret
    exact ⟨rfl, hb1⟩
  · have g0 : ((D : Int) == 0) = false := by rw [beq_eq_false_iff_ne]; omega
    have hcl := Bm.crc_lt (Fm.body0 false n false [])
    obtain ⟨hx1, hx2⟩ := xor_ne (Bm.crc (Fm.body0 false n false [])) D hcl hDl hD0
    have hxor : bits .xor .u16 (Bm.crc (Fm.body0 false n false []) : Int) (D : Int) = ((Bm.crc (Fm.body0 false n false []) ^^^ D : Nat) : Int) := u16_xor_nat _ _ (by omega) (by omega)
    have hcat1 : (ByteArray.mk #[48] ++ ByteArray.mk (Bm.row (Bm.ofB n 11)).toArray) ++ ByteArray.mk #[48, 48, 48, 48, 48, 48, 48] = ByteArray.mk (Bm.row (Fm.body0 false n false [])).toArray := by
      rw [body_fn, show ByteArray.mk #[48] = ByteArray.mk (Bm.row [false]).toArray from rfl, show ByteArray.mk #[48, 48, 48, 48, 48, 48, 48] = ByteArray.mk (Bm.row [false, false, false, false, false, false, false]).toArray from rfl, cat, cat]
      rfl
    have hcat2 : ByteArray.mk (Bm.row (Fm.body0 false n false [])).toArray ++ ByteArray.mk (Bm.row (Bm.ofB (Bm.crc (Fm.body0 false n false []) ^^^ D) 15)).toArray = ByteArray.mk (Bm.row (plainRow n (Bm.crc (Fm.body0 false n false []) ^^^ D))).toArray := by rw [cat]; rfl
    have hcat3 : ByteArray.mk (Bm.row (Sm.stuff (plainRow n (Bm.crc (Fm.body0 false n false []) ^^^ D)))).toArray ++ ByteArray.mk #[49, 48, 49] = ByteArray.mk (Bm.row (rowS n (Bm.crc (Fm.body0 false n false []) ^^^ D))).toArray := by
      rw [show ByteArray.mk #[49, 48, 49] = ByteArray.mk (Bm.row [true, false, true]).toArray from rfl, cat]; rfl
    have hlb : (Fm.body0 false n false []).length ≤ 1000 := by rw [body_fn]; simp [Bm.length_ofB]
    have hlp : (plainRow n (Bm.crc (Fm.body0 false n false []) ^^^ D)).length ≤ 1000 := by unfold plainRow; rw [body_fn]; simp [Bm.length_ofB]
    have H1 : Hid (∀ w, Calls Tryd.prog 19 #[.int .u64 (n : Int), .int .i64 11] w fun e w' => e = .returned (.string ⟨(Bm.row (Bm.ofB n 11)).toArray⟩) ∧ Below w.heap.size w w') := fun w => HO n 11 w (by omega) (by decide)
    have H2 : Hid (∀ w, Calls Tryd.prog 21 #[.string ⟨(Bm.row (Fm.body0 false n false [])).toArray⟩] w fun e w' => e = .returned (.int .u16 (Bm.crc (Fm.body0 false n false []) : Int)) ∧ Below w.heap.size w w') := fun w => HCr _ w hlb
    have H3 : Hid (∀ w, Calls Tryd.prog 19 #[.int .u64 ((Bm.crc (Fm.body0 false n false []) ^^^ D : Nat) : Int), .int .i64 15] w fun e w' => e = .returned (.string ⟨(Bm.row (Bm.ofB (Bm.crc (Fm.body0 false n false []) ^^^ D) 15)).toArray⟩) ∧ Below w.heap.size w w') := fun w => HO _ 15 w (by omega) (by decide)
    have H4 : Hid (∀ w, Calls Tryd.prog 20 #[.string ⟨(Bm.row (plainRow n (Bm.crc (Fm.body0 false n false []) ^^^ D))).toArray⟩] w fun e w' => e = .returned (.string ⟨(Bm.row (Sm.stuff (plainRow n (Bm.crc (Fm.body0 false n false []) ^^^ D)))).toArray⟩) ∧ Below w.heap.size w w') := fun w => HSt _ w hlp
    generalize Bm.crc (Fm.body0 false n false []) ^^^ D = X at *
    have HIx : Hid (∀ (k : Nat) (W : World), k < (rowS n X).length → (Instr.index 9 (.string ⟨(Bm.row (rowS n X)).toArray⟩) (.int .i64 (k : Int))).run Tryd.prog W = .ok (.int .u8 ((Bm.sign ((rowS n X).getD k true)).toNat : Int)) W) := fun k W hk => idx_row _ k hk W
    have HB : Hid (∀ k, k + 2 ≤ (rowS n X).length → ∀ c, c = Bm.sign ((rowS n X).getD k true) → Mm.sample (ss n X k) (c != 48) = (ss n X (k + 1), if k = 0 then [⟨6, Cm.noF, 0⟩] else [])) := fun k hk c hc => by rw [hc, bit_byte]; exact ss_bit hnl hx1 hx2 k hk
    have HZ : Hid (∀ k, k + 1 = (rowS n X).length → ∀ c, c = Bm.sign ((rowS n X).getD k true) → Mm.sample (ss n X k) (c != 48) = (fe ((rowS n X).take k), [⟨5, Cm.noF, 40⟩])) := fun k hk c hc => by rw [hc, bit_byte]; exact ss_last hnl hx1 hx2 k hk
    have HDr : Hid (∀ k, k < (rowS n X).length → k ≠ 0 → (if Mm.drive (ss n X k) then (49 : Int) else 48) = 49) := fun k hk h0 => ss_drive hnl hx1 hx2 k hk h0
    have hsz : (ByteArray.mk (Bm.row (rowS n X)).toArray).size = (rowS n X).length := by
      show (Bm.row (rowS n X)).toArray.size = _
      simp [Bm.row]
    have hsh := rowS_short n X
    have hge := rowS_len n X
    have hz1 : (ByteArray.mk (Bm.row (Bm.ofB n 11)).toArray).size = 11 := by show (Bm.row (Bm.ofB n 11)).toArray.size = _; simp [Bm.row, Bm.length_ofB]
    have hz2 : (ByteArray.mk (Bm.row (Fm.body0 false n false [])).toArray).size ≤ 1000 := by show (Bm.row (Fm.body0 false n false [])).toArray.size ≤ _; simp [Bm.row]; exact hlb
    have hz3 : (ByteArray.mk (Bm.row (Bm.ofB X 15)).toArray).size = 15 := by show (Bm.row (Bm.ofB X 15)).toArray.size = _; simp [Bm.row, Bm.length_ofB]
    have hz4 : (ByteArray.mk (Bm.row (Sm.stuff (plainRow n X))).toArray).size ≤ 300 := by show (Bm.row (Sm.stuff (plainRow n X))).toArray.size ≤ _; simp [Bm.row]; omega
    have hXl : X < 32768 := hx1
    clear hx1 hx2 hlb hlp hD0 HO HCr HSt
    generalize ByteArray.mk (Bm.row (rowS n X)).toArray = T at *
    generalize (rowS n X).length = L at *
    have hLge : 3 ≤ L := by omega
    clear hge
    generalize ByteArray.mk (Bm.row (Sm.stuff (plainRow n X))).toArray = T4 at *
    generalize ByteArray.mk (Bm.row (plainRow n X)).toArray = T3 at *
    generalize ByteArray.mk (Bm.row (Bm.ofB X 15)).toArray = T2 at *
    generalize ByteArray.mk (Bm.row (Fm.body0 false n false [])).toArray = T1 at *
    generalize ByteArray.mk (Bm.row (Bm.ofB n 11)).toArray = T0 at *
    go_enter Tryd.func6, Tryd.ntmps6
    go_wp2_with fail
    refine hk.mono ?_
    rintro e w1 ⟨rfl, hb1⟩
    have hA : Hid (Below W.heap.size W w1) := hb1
    clear hk hb1
    go_wp2_with fail
    refine (H1.out _).mono ?_
    rintro e w2 ⟨rfl, hb2⟩
    replace hA : Hid (Below W.heap.size W w2) := hA.out.trans (hb2.mono hA.out.size)
    clear hb2 H1
    go_wp2_with fail
    refine (H2.out _).mono ?_
    rintro e w3 ⟨rfl, hb3⟩
    replace hA : Hid (Below W.heap.size W w3) := hA.out.trans (hb3.mono hA.out.size)
    clear hb3 H2
    go_wp2_with fail
    refine (H3.out _).mono ?_
    rintro e w4 ⟨rfl, hb4⟩
    replace hA : Hid (Below W.heap.size W w4) := hA.out.trans (hb4.mono hA.out.size)
    clear hb4 H3
    go_wp2_with fail
    refine (H4.out _).mono ?_
    rintro e w5 ⟨rfl, hb5⟩
    replace hA : Hid (Below W.heap.size W w5) := hA.out.trans (hb5.mono hA.out.size)
    clear hb5 H4
    have hC : Hid (Ctx W (fun g => w5.heap.size ≤ g) w5) := Ctx.from HT.out hA.out
    clear hA HT
    go_wp2_with fail
    refine (idle_any S hC.out).mono ?_
    rintro e w6 ⟨p, rfl, O', C', hk'⟩
    replace hC : Hid (Ctx W _ w6) := C'
    have OM : Hid (OwnM At _ w6 _ _) := O'
    clear O' C' hk'
    go_wp2_with fail
    go_loopw [9] (fun i wr => ∃ k : Nat, k < L ∧ i = .int .i64 k ∧ Hid (OwnM At (fun g => w5.heap.size ≤ g) wr p (ss n X k)) ∧ Hid (Ctx W (fun g => w5.heap.size ≤ g) wr)) (fun i _ => L - (intOf i).toNat)
    case atStart => exact ⟨0, by omega, rfl, OM, hC⟩
    case round =>
      clear OM hC
      obtain ⟨k, hk, rfl, OM, hC⟩ := hrel
      have hix := fun W => HIx.out k W hk
      by_cases k0 : k = 0
      · subst k0
        have EQ := HB.out 0 (by omega) _ rfl
        rw [if_pos rfl] at EQ
        have g2 : ((0 : Int) == (L : Int) - 1) = false := by rw [beq_eq_false_iff_ne]; omega
        clear HIx HB HZ HDr
        generalize Bm.sign ((rowS n X).getD 0 true) = c at *
        have hix0 : ∀ W : World, (Instr.index 9 (.string T) (.int .i64 0)).run Tryd.prog W = .ok (.int .u8 (c.toNat : Int)) W := hix
        clear hix
        go_wp2_with fail
        refine (am_one S c EQ OM.out hC.out).mono ?_
        rintro e w' ⟨eg, ecap, rfl, O', C', hk', ec1, ec2, eL, e0, e1, e2, e3, e4, e5⟩
        replace hC : Hid (Ctx W _ w') := C'
        replace OM : Hid (OwnM At _ w' _ _) := O'
        clear O' C' hk'
        clear e0 e1 e2 e3 e4 e5 hix0 EQ
        go_wp2
        go_roundw
        case rel => exact ⟨1, by omega, rfl, OM, hC⟩
        case measure => simp [intOf]; omega
      · have hdr := HDr.out k hk k0
        have g1 : 0 < k := by omega
        by_cases hz : k + 2 ≤ L
        · have EQ := HB.out k hz _ rfl
          rw [if_neg k0] at EQ
          have g2 : ((k : Int) == (L : Int) - 1) = false := by rw [beq_eq_false_iff_ne]; omega
          clear HIx HB HZ HDr
          generalize Bm.sign ((rowS n X).getD k true) = c at *
          go_wp2_with fail
          refine (am_drive S hdr OM.out hC.out).mono ?_
          rintro e w' ⟨rfl, O', C', hk'⟩
          replace hC : Hid (Ctx W _ w') := C'
          replace OM : Hid (OwnM At _ w' _ _) := O'
          clear O' C' hk'
          go_wp2_with fail
          refine (am_quiet S c EQ OM.out hC.out).mono ?_
          rintro e w' ⟨sl, cp, rfl, O', C', hk'⟩
          replace hC : Hid (Ctx W _ w') := C'
          replace OM : Hid (OwnM At _ w' _ _) := O'
          clear O' C' hk'
          clear hix EQ hdr
          go_wp2
          go_roundw
          case rel => exact ⟨k + 1, by omega, by go_num, OM, hC⟩
          case measure => simp [intOf]; omega
        · have EQ := HZ.out k (by omega) _ rfl
          have g2 : ((k : Int) == (L : Int) - 1) = true := by rw [beq_iff_eq]; omega
          clear HIx HB HZ HDr
          generalize Bm.sign ((rowS n X).getD k true) = c at *
          go_wp2_with fail
          refine (am_drive S hdr OM.out hC.out).mono ?_
          rintro e w' ⟨rfl, O', C', hk'⟩
          replace hC : Hid (Ctx W _ w') := C'
          replace OM : Hid (OwnM At _ w' _ _) := O'
          clear O' C' hk'
          go_wp2_with fail
          refine (am_one S c EQ OM.out hC.out).mono ?_
          rintro e w' ⟨eg, ecap, rfl, O', C', hk', ec1, ec2, eL, e0, e1, e2, e3, e4, e5⟩
          replace hC : Hid (Ctx W _ w') := C'
          replace OM : Hid (OwnM At _ w' _ _) := O'
          clear O' C' hk'
          have e0' : w'.cell? ⟨eg, 0, none⟩ = some (.int .i64 5) := e0
          have e5' : w'.cell? ⟨eg, 5, none⟩ = some (.int .i64 40) := e5
          clear e0 e1 e2 e3 e4 e5 hix EQ hdr
          go_wp2
          go_ret
          exact ⟨rfl, hC.out.below⟩
theorem walkA (S : MacSpec At) (HK : AckSpec) (HO : OfSpec) (HCr : CrcSpec) (HSt : StuffSpec) (a0 : Int) (w0 : (Lit.int .u16 a0).wf = true) (a1 : Int) (w1 : (Lit.int .u16 a1).wf = true) (W : World) (hT : Tab W) :
    Calls Tryd.prog 6 #[.int .u16 a0, .int .u16 a1] W fun e w' => e = .returned (.bool true) ∧ Below W.heap.size W w' := by
  obtain ⟨h1, h2⟩ := bounds_u16 w0
  obtain ⟨i, rfl⟩ := Int.eq_ofNat_of_zero_le h1
  obtain ⟨h3, h4⟩ := bounds_u16 w1
  obtain ⟨b, rfl⟩ := Int.eq_ofNat_of_zero_le h3
  exact walkN S HK HO HCr HSt i b (by omega) (by omega) W hT
end Go.Proofs.YthappkhiiopfgabDoor.macSums
