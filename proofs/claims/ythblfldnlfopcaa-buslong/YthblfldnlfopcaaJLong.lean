/- BusLong: of more bits than are kept the latest are told, in order, for every number of bits below 9000; no condition. -/
import Derived.Test.YthblfldnlfopcaaJk
import Derived.Test.YthblfldnlfopcaaMb
import Derived.OpenShut
import Derived.ProofKit
namespace Go.Proofs.Ythblfldnlfopcaa.busLong
open Go.ChangeShapes Go.WideShapes Go.ChangeAt Go.RowKit
set_option linter.unusedVariables false
variable {At : World → Nat → (Nat → Prop) → List Bool → Bool → Prop}
def beat (M i : Nat) : Bool := i % M != 0
def seg (M k : Nat) : List Bool := (List.range k).map (beat M)
theorem seg_succ (M k : Nat) : seg M (k + 1) = seg M k ++ [beat M k] := by unfold seg; rw [List.range_succ, List.map_append]; rfl
theorem length_seg (M k : Nat) : (seg M k).length = k := by simp [seg]
theorem length_tr (M k : Nat) : (Bm.row (Bz.last (seg M k))).length = min k 4000 := by
  unfold Bz.last Bm.row
  rw [List.length_map, List.length_drop, length_seg]
  omega
theorem get_tr (M k j : Nat) (h : j < min k 4000) : (Bm.row (Bz.last (seg M k)))[j]? = some (Bm.sign (beat M (k - min k 4000 + j))) := by
  unfold Bz.last Bm.row
  rw [List.getElem?_map, List.getElem?_drop, length_seg]
  unfold seg
  rw [List.getElem?_map, List.getElem?_range (by omega), show k - 4000 + j = k - min k 4000 + j by omega]
  rfl
set_option maxRecDepth 100000 in
set_option maxHeartbeats 4000000 in
theorem walkN (S : BusSpec At) (n m : Nat) (hm : m < 256) (W : World) : Calls Try.prog 4 #[.int .u16 (n : Int), .int .u8 (m : Int)] W fun e w' => e = .returned (.bool true) ∧ Below W.heap.size W w' := by
  obtain ⟨K, hK⟩ : ∃ K : Nat, (n : Int) % 9000 = (K : Int) := ⟨n % 9000, by omega⟩
  have hK2 : K < 9000 := by omega
  obtain ⟨M, hM⟩ : ∃ M : Nat, (m : Int) % 7 + 2 = (M : Int) := ⟨m % 7 + 2, by omega⟩
  have hM1 : 2 ≤ M := by omega
  have hM2 : M ≤ 8 := by omega
  clear hm
  go_enter Try.func4, Try.ntmps4
  go_wp2_with fail
  refine (known6_any S _).mono ?_
  rintro e w0 ⟨rfl, hb0⟩
  go_wp2_with fail
  refine (own_new S W.heap.size _ hb0.size).mono ?_
  rintro e w1 ⟨p, rfl, O, hb1⟩
  have hA : Hid (Below W.heap.size W w1) := hb0.trans (hb1.mono hb0.size)
  have OB : Hid (Own At W.heap.size w1 p [] false) := O
  clear hb0 hb1 O
  go_wp2_with fail
  clear hK
  go_loopw [7] (fun i wr => ∃ k : Nat, k ≤ K ∧ i = .int .i64 k ∧ Hid (Own At W.heap.size wr p (seg M k) false) ∧ Hid (Below W.heap.size W wr)) (fun i _ => K - (intOf i).toNat)
  case atStart => exact ⟨0, Nat.zero_le _, rfl, OB, hA⟩
  case round =>
    clear hA OB
    obtain ⟨k, hk, rfl, OB, hA⟩ := hrel
    by_cases hlt : k < K
    · have hlen := length_seg M k
      have HP : Hid (_) := seg_succ M k
      obtain ⟨R, hR⟩ : ∃ R : Nat, (k : Int).tmod (M : Int) = (R : Int) := ⟨k % M, by rw [Int.tmod_eq_emod_of_nonneg (by omega)]; simp⟩
      have hRe : k % M = R := by
        rw [Int.tmod_eq_emod_of_nonneg (by omega)] at hR
        omega
      by_cases h0 : R = 0
      · have hbe : beat M k = false := by unfold beat; rw [hRe, h0]; rfl
        subst h0
        clear hRe
        go_wp2_with fail
        refine (own_step S _ OB.out hA.out.size (by omega) (by decide)).mono ?_
        rintro e w2 ⟨rfl, O', hb'⟩
        have hA2 : Hid (Below W.heap.size W w2) := hA.out.trans hb'
        have OB2 : Hid (Own At W.heap.size w2 p (seg M (k + 1)) false) := by show Own _ _ _ _ _ _; rw [HP.out, hbe]; exact O'
        clear hb' O' hA OB HP hlen hbe hR
        go_wp2
        go_roundw
        case rel => exact ⟨k + 1, by omega, by go_num, OB2, hA2⟩
        case measure => simp [intOf]; omega
      · have hbe : beat M k = true := by unfold beat; rw [hRe]; simpa using h0
        clear hRe
        go_wp2_with fail
        refine (own_step S _ OB.out hA.out.size (by omega) (by decide)).mono ?_
        rintro e w2 ⟨rfl, O', hb'⟩
        have hA2 : Hid (Below W.heap.size W w2) := hA.out.trans hb'
        have OB2 : Hid (Own At W.heap.size w2 p (seg M (k + 1)) false) := by show Own _ _ _ _ _ _; rw [HP.out, hbe]; exact O'
        clear hb' O' hA OB HP hlen hbe hR
        go_wp2
        go_roundw
        case rel => exact ⟨k + 1, by omega, by go_num, OB2, hA2⟩
        case measure => simp [intOf]; omega
    · obtain rfl : k = K := by omega
      have hlen := length_seg M k
      have hlt2 := length_tr M k
      have HG : Hid (_) := get_tr M k
      obtain ⟨L, hL⟩ : ∃ L, min k 4000 = L := ⟨_, rfl⟩
      have hLI : min (k : Int) 4000 = (L : Int) := by omega
      have hLk : L ≤ k := by omega
      rw [hL] at hlt2 HG
      clear hL hlt hk
      go_wp2_with fail
      refine (own_trace S OB.out hA.out.size (by (try simp) <;> omega)).mono ?_
      rintro e w' ⟨rfl, T', hb'⟩
      replace hA : Hid (Below W.heap.size W w') := hA.out.trans hb'
      replace OB : Hid (Own At W.heap.size w' _ _ _) := T'
      clear T' hb'
      try (clear t1; have t1 := hce1.out _ hA.out)
      go_wp2_with fail
      refine (own_len S OB.out hA.out.size (by (try simp) <;> omega)).mono ?_
      rintro e w' ⟨rfl, T', hb'⟩
      replace hA : Hid (Below W.heap.size W w') := hA.out.trans hb'
      replace OB : Hid (Own At W.heap.size w' _ _ _) := T'
      clear T' hb'
      try (clear t1; have t1 := hce1.out _ hA.out)
      rw [hlen]
      generalize Bm.row (Bz.last (seg M k)) = t at *
      clear OB hlen
      go_wp2_with fail
      clear hLI
      go_loopw [10] (fun i wr => ∃ j : Nat, j ≤ L ∧ i = .int .i64 j ∧ Hid (Below W.heap.size W wr)) (fun i _ => L - (intOf i).toNat)
      case atStart => exact ⟨0, Nat.zero_le _, rfl, hA⟩
      case round =>
        clear hA
        obtain ⟨j, hj, rfl, hA⟩ := hrel
        by_cases hjl : j < L
        · have hg := HG.out j hjl
          obtain ⟨R, hR⟩ : ∃ R : Nat, ((k : Int) - (L : Int) + (j : Int)).tmod (M : Int) = (R : Int) := ⟨(k - L + j) % M, by
            rw [Int.tmod_eq_emod_of_nonneg (by omega), show (k : Int) - (L : Int) + (j : Int) = ((k - L + j : Nat) : Int) by omega]; simp⟩
          have hRe : (k - L + j) % M = R := by
            rw [Int.tmod_eq_emod_of_nonneg (by omega), show (k : Int) - (L : Int) + (j : Int) = ((k - L + j : Nat) : Int) by omega] at hR
            omega
          have hbe : beat M (k - L + j) = (R != 0) := by unfold beat; rw [hRe]
          cases hc : beat M (k - L + j)
          · have hix : ∀ W' : World, (Instr.index 9 (.string (ByteArray.mk t.toArray)) (.int .i64 (j : Int))).run Try.prog W' = .ok (.int .u8 48) W' := fun W' => by
              rw [run_idx 9 Try.underlying9 _ j _ rfl (by show j < t.toArray.size; simp; omega) W']
              have e : (ByteArray.mk t.toArray)[j]'(by show j < t.toArray.size; simp; omega) = Bm.sign false := by
                show t.toArray[j]'(by simp; omega) = _
                rw [List.getElem?_eq_some_iff] at hg
                obtain ⟨_, h⟩ := hg
                rw [hc] at h
                simpa using h
              rw [e]; rfl
            obtain rfl : R = 0 := by rw [hc] at hbe; simpa using hbe.symm
            clear hg hc hbe HG hRe
            go_wp2_with fail
            refine Lw.wp_region_quiet_below (by kernel_rfl) (by kernel_rfl) ?_
            repeat (first
              | go_big_quiet_skip
              | (go_big_quiet_want; go_big_quiet_op; go_big_quiet_on)
              | (go_big_quiet_want; go_big_quiet_op; apply Exists.intro; refine ⟨fun _ hb' => ?_, ?_⟩; (first
                | exact Lw.val_rfl _
                | (simp [go_sem, hix]; rfl)); go_big_quiet_on))
            refine wpQuiet_nil ?_
            intro w2 hb2
            have hA2 : Hid (Below W.heap.size W w2) := hA.out.trans (hb2.mono hA.out.size)
            clear hb2 hix
            go_wp2
            go_roundw
            case rel => exact ⟨j + 1, by omega, by go_num, hA2⟩
            case measure => simp [intOf]; omega
          · have hix : ∀ W' : World, (Instr.index 9 (.string (ByteArray.mk t.toArray)) (.int .i64 (j : Int))).run Try.prog W' = .ok (.int .u8 49) W' := fun W' => by
              rw [run_idx 9 Try.underlying9 _ j _ rfl (by show j < t.toArray.size; simp; omega) W']
              have e : (ByteArray.mk t.toArray)[j]'(by show j < t.toArray.size; simp; omega) = Bm.sign true := by
                show t.toArray[j]'(by simp; omega) = _
                rw [List.getElem?_eq_some_iff] at hg
                obtain ⟨_, h⟩ := hg
                rw [hc] at h
                simpa using h
              rw [e]; rfl
            have hR0 : ¬ R = 0 := by rw [hc] at hbe; simpa using hbe.symm
            clear hg hc hbe HG hRe
            go_wp2_with fail
            refine Lw.wp_region_quiet_below (by kernel_rfl) (by kernel_rfl) ?_
            repeat (first
              | go_big_quiet_skip
              | (go_big_quiet_want; go_big_quiet_op; go_big_quiet_on)
              | (go_big_quiet_want; go_big_quiet_op; apply Exists.intro; refine ⟨fun _ hb' => ?_, ?_⟩; (first
                | exact Lw.val_rfl _
                | (simp [go_sem, hix]; rfl)); go_big_quiet_on))
            refine wpQuiet_nil ?_
            intro w2 hb2
            have hA2 : Hid (Below W.heap.size W w2) := hA.out.trans (hb2.mono hA.out.size)
            clear hb2 hix
            go_wp2
            go_roundw
            case rel => exact ⟨j + 1, by omega, by go_num, hA2⟩
            case measure => simp [intOf]; omega
        · obtain rfl : j = L := by omega
          go_wp2
          go_ret
          exact ⟨rfl, hA.out⟩
theorem walkA (S : BusSpec At) (a0 : Int) (w0 : (Lit.int .u16 a0).wf = true) (a1 : Int) (w1 : (Lit.int .u8 a1).wf = true) (W : World) : Calls Try.prog 4 #[.int .u16 a0, .int .u8 a1] W fun e w' => e = .returned (.bool true) ∧ Below W.heap.size W w' := by
  obtain ⟨h1, h2⟩ := bounds_u16 w0
  obtain ⟨n, rfl⟩ := Int.eq_ofNat_of_zero_le h1
  obtain ⟨h3, h4⟩ := bounds_u8 w1
  obtain ⟨m, rfl⟩ := Int.eq_ofNat_of_zero_le h3
  exact walkN S n m (by omega) W
end Go.Proofs.Ythblfldnlfopcaa.busLong
