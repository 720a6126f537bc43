/- BusWins: the wire has a 0 as soon as one drives one, wherever that one stands; no condition. -/
import Derived.Test.YthblfldnlfopcaaJk
import Derived.Test.YthblfldnlfopcaaMb
import Derived.OpenShut
import Derived.ProofKit
namespace Go.Proofs.Ythblfldnlfopcaa.busWins
open Go.ChangeShapes Go.WideShapes Go.ChangeAt Go.RowKit
set_option linter.unusedVariables false
variable {At : World → Nat → (Nat → Prop) → List Bool → Bool → Prop}
def on1 (k : Nat) : ByteArray := ⟨(List.replicate k 49).toArray⟩
theorem str_app (x y : List UInt8) : (ByteArray.mk x.toArray ++ ByteArray.mk y.toArray) = ByteArray.mk (x ++ y).toArray := by
  apply ByteArray.ext
  rw [ByteArray.data_append]
  simp
theorem on1_succ (k : Nat) : on1 k ++ ByteArray.mk #[49] = on1 (k + 1) := by
  unfold on1
  rw [List.replicate_succ', show ByteArray.mk #[49] = ByteArray.mk [49].toArray from rfl, str_app]
theorem size_on1 (k : Nat) : (on1 k).size = k := by unfold on1; simp [ByteArray.size]
theorem wire_on1 (k : Nat) : Bz.wire (on1 k).data.toList = true := by
  unfold Bz.wire on1
  simp
theorem wire_t (k X : Nat) : Bz.wire ((on1 k).extract 0 X ++ ByteArray.mk #[48] ++ (on1 k).extract (X + 1) k).data.toList = false := by
  unfold Bz.wire
  rw [ByteArray.data_append, ByteArray.data_append]
  simp
theorem size_t (k X : Nat) (h : X < k) : ((on1 k).extract 0 X ++ ByteArray.mk #[48] ++ (on1 k).extract (X + 1) k).size = k := by
  rw [ByteArray.size_append, ByteArray.size_append, ByteArray.size_extract, ByteArray.size_extract, size_on1]
  show _ + 1 + _ = _
  omega
theorem wrap_m (m : Nat) (h : m < 256) : wrap64 (m : Int) = (m : Int) := by
  unfold wrap64
  omega
set_option maxRecDepth 100000 in
set_option maxHeartbeats 4000000 in
theorem walkN (S : BusSpec At) (n m : Nat) (hm : m < 256) (fl : Bool) (W : World) : Calls Try.prog 5 #[.int .u8 (n : Int), .int .u8 (m : Int), .bool fl] W fun e w' => e = .returned (.bool true) ∧ Below W.heap.size W w' := by
  obtain ⟨K, hK⟩ : ∃ K : Nat, (n : Int) % 20 + 1 = (K : Int) := ⟨n % 20 + 1, by omega⟩
  have hK1 : 1 ≤ K := by omega
  have hK2 : K ≤ 20 := by omega
  obtain ⟨X, hX⟩ : ∃ X : Nat, (m : Int) % (K : Int) = (X : Int) := ⟨m % K, by simp⟩
  have hXK : X < K := by
    have h := Int.emod_lt_of_pos (m : Int) (show (0 : Int) < (K : Int) by omega)
    omega
  go_enter Try.func5, Try.ntmps5
  go_wp2_with fail
  refine (known6_any S _).mono ?_
  rintro e w0 ⟨rfl, hb0⟩
  go_wp2_with fail
  refine (own_new S W.heap.size _ hb0.size).mono ?_
  rintro e w1 ⟨p, rfl, O, hb1⟩
  have hA : Hid (Below W.heap.size W w1) := hb0.trans (hb1.mono hb0.size)
  have OB : Hid (Own At W.heap.size w1 p [] false) := O
  clear hb0 hb1 O
  go_wp2_with fail
  go_loop [9, 10] (fun s i => ∃ k : Nat, k ≤ K ∧ i = .int .i64 k ∧ s = .string (on1 k)) (fun _ i => K - (intOf i).toNat)
  case atStart => exact ⟨0, Nat.zero_le _, rfl, rfl⟩
  case round =>
    obtain ⟨k, hk, rfl, rfl⟩ := hrel
    have hsz := size_on1
    by_cases hlt : k < K
    · have hs := on1_succ k
      clear hX hK hXK
      go_wp2
      go_round
      case rel => exact ⟨k + 1, by omega, by go_num, rfl⟩
      case measure => simp [intOf]; omega
    · obtain rfl : k = K := by omega
      clear hK
      go_wp2_with fail
      have hx0 : (0 : Int) ≤ (X : Int) := by omega
      have hx2 : (X : Int) ≤ (k : Int) := by omega
      have hx3 : (0 : Int) ≤ (X : Int) + 1 := by omega
      have hx4 : (X : Int) + 1 ≤ (k : Int) := by omega
      have HX : Hid (_) := hX
      clear hX
      have hT : (m : Int).tmod (k : Int) = (X : Int) := by
        rw [Int.tmod_eq_emod_of_nonneg (by omega)]
        exact HX.out
      have hm0 : (0 : Int) ≤ (m : Int) := by omega
      have hm1 : (m : Int) < 256 := by omega
      refine Lw.wp_region_quiet_below (by kernel_rfl) (by kernel_rfl) ?_
      repeat (first
        | go_big_quiet_skip
        | (go_big_quiet_want; go_big_quiet_op; go_big_quiet_on)
        | (go_big_quiet_want; go_big_quiet_op; apply Exists.intro; refine ⟨fun _ hb' => ?_, ?_⟩; (first
          | exact Lw.val_rfl _
          | (simp [go_sem, hx0, hx2]; rfl)
          | (simp [go_sem, hx3, hx4]; rfl)); go_big_quiet_on))
      refine wpQuiet_nil ?_
      intro w2 hb2
      have hwT := wire_t k X
      have hzT := size_t k X hXK
      replace hA : Hid (Below W.heap.size W w2) := hA.out.trans (hb2.mono hA.out.size)
      replace OB : Hid (Own At W.heap.size w2 _ _ _) := OB.out.on S hb2
      clear hb2 HX
      generalize hTg : (on1 k).extract 0 X ++ ByteArray.mk #[48] ++ (on1 k).extract (X + 1) k = T at *
      have hwS := wire_on1 k
      have hzS : (on1 k).size ≤ 1048576 := by rw [size_on1]; omega
      have hs1 : Bz.sg true = 49 := rfl
      have hs0 : Bz.sg false = 48 := rfl
      clear hx0 hx2 hx3 hx4 hXK hTg hT hm0 hm1 hm hlt hk hsz
      cases fl
      · skip
        go_wp2_with fail
        refine (own_step S _ OB.out hA.out.size (by (try simp) <;> omega) (by first | decide | omega | assumption)).mono ?_
        rintro e w' ⟨rfl, T', hb'⟩
        replace hA : Hid (Below W.heap.size W w') := hA.out.trans hb'
        replace OB : Hid (Own At W.heap.size w' _ _ _) := T'
        clear T' hb'
        try (clear t1; have t1 := hce1.out _ hA.out)
        go_wp2_with fail
        refine (own_step S _ OB.out hA.out.size (by (try simp) <;> omega) (by first | decide | omega | assumption)).mono ?_
        rintro e w' ⟨rfl, T', hb'⟩
        replace hA : Hid (Below W.heap.size W w') := hA.out.trans hb'
        replace OB : Hid (Own At W.heap.size w' _ _ _) := T'
        clear T' hb'
        try (clear t1; have t1 := hce1.out _ hA.out)
        go_wp2_with fail
        refine (own_step S _ OB.out hA.out.size (by (try simp) <;> omega) (by first | decide | omega | assumption)).mono ?_
        rintro e w' ⟨rfl, T', hb'⟩
        replace hA : Hid (Below W.heap.size W w') := hA.out.trans hb'
        replace OB : Hid (Own At W.heap.size w' _ _ _) := T'
        clear T' hb'
        try (clear t1; have t1 := hce1.out _ hA.out)
        go_wp2_with fail
        refine (own_len S OB.out hA.out.size (by (try simp) <;> omega)).mono ?_
        rintro e w' ⟨rfl, T', hb'⟩
        replace hA : Hid (Below W.heap.size W w') := hA.out.trans hb'
        replace OB : Hid (Own At W.heap.size w' _ _ _) := T'
        clear T' hb'
        try (clear t1; have t1 := hce1.out _ hA.out)
        go_wp2
        go_ret
        exact ⟨rfl, hA.out⟩
      · skip
        go_wp2_with fail
        refine (own_flip S OB.out hA.out.size).mono ?_
        rintro e w' ⟨rfl, T', hb'⟩
        replace hA : Hid (Below W.heap.size W w') := hA.out.trans hb'
        replace OB : Hid (Own At W.heap.size w' _ _ _) := T'
        clear T' hb'
        try (clear t1; have t1 := hce1.out _ hA.out)
        go_wp2_with fail
        refine (own_step S _ OB.out hA.out.size (by (try simp) <;> omega) (by first | decide | omega | assumption)).mono ?_
        rintro e w' ⟨rfl, T', hb'⟩
        replace hA : Hid (Below W.heap.size W w') := hA.out.trans hb'
        replace OB : Hid (Own At W.heap.size w' _ _ _) := T'
        clear T' hb'
        try (clear t1; have t1 := hce1.out _ hA.out)
        go_wp2_with fail
        refine (own_flip S OB.out hA.out.size).mono ?_
        rintro e w' ⟨rfl, T', hb'⟩
        replace hA : Hid (Below W.heap.size W w') := hA.out.trans hb'
        replace OB : Hid (Own At W.heap.size w' _ _ _) := T'
        clear T' hb'
        try (clear t1; have t1 := hce1.out _ hA.out)
        go_wp2_with fail
        refine (own_step S _ OB.out hA.out.size (by (try simp) <;> omega) (by first | decide | omega | assumption)).mono ?_
        rintro e w' ⟨rfl, T', hb'⟩
        replace hA : Hid (Below W.heap.size W w') := hA.out.trans hb'
        replace OB : Hid (Own At W.heap.size w' _ _ _) := T'
        clear T' hb'
        try (clear t1; have t1 := hce1.out _ hA.out)
        go_wp2_with fail
        refine (own_step S _ OB.out hA.out.size (by (try simp) <;> omega) (by first | decide | omega | assumption)).mono ?_
        rintro e w' ⟨rfl, T', hb'⟩
        replace hA : Hid (Below W.heap.size W w') := hA.out.trans hb'
        replace OB : Hid (Own At W.heap.size w' _ _ _) := T'
        clear T' hb'
        try (clear t1; have t1 := hce1.out _ hA.out)
        go_wp2_with fail
        refine (own_len S OB.out hA.out.size (by (try simp) <;> omega)).mono ?_
        rintro e w' ⟨rfl, T', hb'⟩
        replace hA : Hid (Below W.heap.size W w') := hA.out.trans hb'
        replace OB : Hid (Own At W.heap.size w' _ _ _) := T'
        clear T' hb'
        try (clear t1; have t1 := hce1.out _ hA.out)
        go_wp2
        go_ret
        exact ⟨rfl, hA.out⟩
theorem walkA (S : BusSpec At) (a0 : Int) (w0 : (Lit.int .u8 a0).wf = true) (a1 : Int) (w1 : (Lit.int .u8 a1).wf = true) (fl : Bool) (W : World) : Calls Try.prog 5 #[.int .u8 a0, .int .u8 a1, .bool fl] W fun e w' => e = .returned (.bool true) ∧ Below W.heap.size W w' := by
  obtain ⟨h1, h2⟩ := bounds_u8 w0
  obtain ⟨n, rfl⟩ := Int.eq_ofNat_of_zero_le h1
  obtain ⟨h3, h4⟩ := bounds_u8 w1
  obtain ⟨m, rfl⟩ := Int.eq_ofNat_of_zero_le h3
  exact walkN S n m (by omega) fl W
end Go.Proofs.Ythblfldnlfopcaa.busWins
