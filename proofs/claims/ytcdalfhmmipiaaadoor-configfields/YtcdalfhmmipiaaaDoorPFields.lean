/- ConfigFields: each field stands where it must in the bytes, for every six numbers; no condition. -/
import Derived.Test.YtcdalfhmmipiaaaDoorP6
import Derived.ProofKit
import Derived.OpenShut
namespace Go.Proofs.YtcdalfhmmipiaaaDoor.configFields
open Go.ChangeShapes Go.WideShapes Go.ChangeAt Go.RowKit
set_option linter.unusedVariables false
variable {Q : World → Prop}
theorem run_idx13 {P : Program} (t : TypeId) (h : P.underlying t = some .string) (s : ByteArray) (i : Nat) (x : Int) (hx : x = (i : Int)) (hlt : i < s.size) (W : World) :
    (Instr.index t (.string s) (.int .i64 x)).run P W = .ok (.int .u8 (s[i].toNat : Int)) W := by
  subst hx
  rw [run_index_string (P := P) W t s .i64 (i : Int) h, dif_pos ⟨by omega, by omega⟩]
  simp
set_option maxRecDepth 100000 in
set_option maxHeartbeats 1000000 in
theorem two13_any (w : World) (s : ByteArray) (i : Nat) (h : i + 1 < s.size) (hs : s.size ≤ 1000) (X Y : Nat) (hX : s[i].toNat = X) (hY : s[i + 1].toNat = Y) : Calls Tryd.prog 18 #[.string s, .int .i64 (i : Int)] w fun e w' => e = .returned (.int .i64 (256 * (X : Int) + (Y : Int))) ∧ Below w.heap.size w w' := by
  have h1 : ∀ W, (Instr.index 9 (.string s) (.int .i64 (i : Int))).run Tryd.prog W = .ok (.int .u8 (X : Int)) W := fun W => by rw [← hX]; exact run_idx13 9 Tryd.underlying9 s i _ rfl (by omega) W
  have h2 : ∀ W, (Instr.index 9 (.string s) (.int .i64 ((i : Int) + 1))).run Tryd.prog W = .ok (.int .u8 (Y : Int)) W := fun W => by rw [← hY]; exact run_idx13 9 Tryd.underlying9 s (i + 1) _ (by simp) h W
  have b1 : (X : Int) < 256 := by have := s[i].toNat_lt; omega
  have b2 : (Y : Int) < 256 := by have := s[i + 1].toNat_lt; omega
  have b3 : (i : Int) < 1000 := by omega
  clear hX hY h hs
  go_enter Tryd.func18, Tryd.ntmps18
  go_wp2_with fail
  refine Lw.wp_region_quiet_below (by kernel_rfl) (by kernel_rfl) ?_
  repeat (first
    | go_big_quiet_skip
    | (go_big_quiet_want; go_big_quiet_op; go_big_quiet_on)
    | (go_big_quiet_want; go_big_quiet_op; apply Exists.intro; refine ⟨fun _ hb' => ?_, ?_⟩; (first
      | exact Lw.val_rfl _
      | (simp [go_sem, h1]; rfl)
      | (simp [go_sem, h2]; rfl)); go_big_quiet_on))
  refine wpQuiet_nil ?_
  intro wz hbz
  have HBz : Hid (Below w.heap.size w wz) := hbz
  clear hbz
  go_wp2
  go_ret
  exact ⟨rfl, HBz.out⟩
theorem natU16 {x : Int} (h : (Lit.int .u16 x).wf = true) : ∃ n : Nat, x = (n : Int) ∧ n < 65536 := by
  obtain ⟨h1, h2⟩ := bounds_u16 h
  obtain ⟨n, rfl⟩ := Int.eq_ofNat_of_zero_le h1
  exact ⟨n, rfl, by omega⟩
theorem natU8 {x : Int} (h : (Lit.int .u8 x).wf = true) : ∃ n : Nat, x = (n : Int) ∧ n < 256 := by
  obtain ⟨h1, h2⟩ := bounds_u8 h
  obtain ⟨n, rfl⟩ := Int.eq_ofNat_of_zero_le h1
  exact ⟨n, rfl, by omega⟩
set_option maxRecDepth 100000 in
set_option maxHeartbeats 16000000 in
theorem walkA (hQ : ∀ w w', Q w → Below w.heap.size w w' → Q w') (S : ConfSpec Q) (c0 : Int) (w0 : (Lit.int .u16 c0).wf = true) (c1 : Int) (w1 : (Lit.int .u16 c1).wf = true) (c2 : Int) (w2 : (Lit.int .u8 c2).wf = true) (c3 : Int) (w3 : (Lit.int .u8 c3).wf = true) (c4 : Int) (w4 : (Lit.int .u8 c4).wf = true) (c5 : Int) (w5 : (Lit.int .u16 c5).wf = true) (W : World) (hW : Q W) :
    Calls Tryd.prog 8 #[.int .u16 c0, .int .u16 c1, .int .u8 c2, .int .u8 c3, .int .u8 c4, .int .u16 c5] W fun e w' => e = .returned (.bool true) ∧ Below W.heap.size W w' := by
  have HQ : Hid (∀ w, Below W.heap.size W w → Q w) := fun w hb => hQ W w hW hb
  have HK : Hid (∀ w, Below W.heap.size W w → Calls Tryd.prog 9 #[] w fun e w' => e = .returned (.bool true) ∧ Below w.heap.size w w') := fun w hb => known13_any hQ S w (HQ.out _ hb)
  have HPa : Hid (∀ w b, Below W.heap.size W w → b.length ≤ 1000 → Calls Tryd.prog 12 #[.string ⟨b.toArray⟩] w fun e w' => Told b e w' ∧ Below w.heap.size w w') := fun w b h hl => S.parse w b (HQ.out _ h) hl
  obtain ⟨c0, rfl, b0⟩ := natU16 w0
  obtain ⟨c1, rfl, b1⟩ := natU16 w1
  obtain ⟨c2, rfl, b2⟩ := natU8 w2
  obtain ⟨c3, rfl, b3⟩ := natU8 w3
  obtain ⟨c4, rfl, b4⟩ := natU8 w4
  obtain ⟨c5, rfl, b5⟩ := natU16 w5
  have hA : Hid (Below W.heap.size W W) := Below.refl _ _
  clear hQ hW w0 w1 w2 w3 w4 w5
  obtain ⟨L, hL⟩ : ∃ L : Nat, c0 % 4000 + 1 = L := ⟨_, rfl⟩
  obtain ⟨I, hI⟩ : ∃ I : Nat, c1 % 8001 = I := ⟨_, rfl⟩
  obtain ⟨E, hE⟩ : ∃ E : Nat, c2 % 16 + 1 = E := ⟨_, rfl⟩
  obtain ⟨U, hU⟩ : ∃ U : Nat, c3 % 64 + 1 = U := ⟨_, rfl⟩
  obtain ⟨N, hN⟩ : ∃ N : Nat, c4 % 8 + 1 = N := ⟨_, rfl⟩
  obtain ⟨R, hR⟩ : ∃ R : Nat, c5 % 256 * 8 = R := ⟨_, rfl⟩
  have iL : (c0 : Int) % 4000 + 1 = (L : Int) := by omega
  have iI : (c1 : Int) % 8001 = (I : Int) := by omega
  have iE : (c2 : Int) % 16 + 1 = (E : Int) := by omega
  have iU : (c3 : Int) % 64 + 1 = (U : Int) := by omega
  have iN : (c4 : Int) % 8 + 1 = (N : Int) := by omega
  have iR : (c5 : Int) % 256 * 8 = (R : Int) := by omega
  go_enter Tryd.func8, Tryd.ntmps8
  go_wp2_with fail
  refine (HK.out _ hA.out).mono ?_
  rintro e v1 ⟨rfl, hb⟩
  replace hA : Hid (Below W.heap.size W v1) := hA.out.trans (hb.mono hA.out.size)
  clear hb HK
  go_wp2_with fail
  have hi : Mx.is ⟨2, N, 4, L, E, U, I, R, [3, 1], [], []⟩ = true := by
    simp [Mx.is, Mx.scal, Mx.lens, Mx.within, Mx.power]
    omega
  obtain ⟨M, hM⟩ : ∃ M : Mx.M, M = ⟨2, N, 4, L, E, U, I, R, [3, 1], [], []⟩ := ⟨_, rfl⟩
  obtain ⟨bN, hbN⟩ : ∃ b, Pq.u8 (N : Int) = b := ⟨_, rfl⟩
  obtain ⟨bE, hbE⟩ : ∃ b, Pq.u8 (E : Int) = b := ⟨_, rfl⟩
  obtain ⟨bU, hbU⟩ : ∃ b, Pq.u8 (U : Int) = b := ⟨_, rfl⟩
  obtain ⟨bL1, hbL1⟩ : ∃ b, Pq.u8 ((L : Int) / 256) = b := ⟨_, rfl⟩
  obtain ⟨bL0, hbL0⟩ : ∃ b, Pq.u8 (L : Int) = b := ⟨_, rfl⟩
  obtain ⟨bI1, hbI1⟩ : ∃ b, Pq.u8 ((I : Int) / 256) = b := ⟨_, rfl⟩
  obtain ⟨bI0, hbI0⟩ : ∃ b, Pq.u8 (I : Int) = b := ⟨_, rfl⟩
  obtain ⟨bR1, hbR1⟩ : ∃ b, Pq.u8 ((R : Int) / 256) = b := ⟨_, rfl⟩
  obtain ⟨bR0, hbR0⟩ : ∃ b, Pq.u8 (R : Int) = b := ⟨_, rfl⟩
  have hpr : Pq.pr ⟨2, N, 4, L, E, U, I, R, [3, 1], [], []⟩ = [79, 2, bN, 4, bL1, bL0, bE, bU, bI1, bI0, bR1, bR0, 2, 3, 1, 0, 0] := by
    rw [Pq.pr_is hi, ← hbN, ← hbE, ← hbU, ← hbL1, ← hbL0, ← hbI1, ← hbI0, ← hbR1, ← hbR0]
    rfl
  have uN : (bN.toNat : Int) = (N : Int) := by rw [← hbN]; exact Pq.u8_int (by omega) (by omega)
  have uE : (bE.toNat : Int) = (E : Int) := by rw [← hbE]; exact Pq.u8_int (by omega) (by omega)
  have uU : (bU.toNat : Int) = (U : Int) := by rw [← hbU]; exact Pq.u8_int (by omega) (by omega)
  have uL : 256 * (bL1.toNat : Int) + (bL0.toNat : Int) = (L : Int) := by rw [← hbL1, ← hbL0, Pq.u8_mod, Pq.u8_mod]; omega
  have uI : 256 * (bI1.toNat : Int) + (bI0.toNat : Int) = (I : Int) := by rw [← hbI1, ← hbI0, Pq.u8_mod, Pq.u8_mod]; omega
  have uR : 256 * (bR1.toNat : Int) + (bR0.toNat : Int) = (R : Int) := by rw [← hbR1, ← hbR0, Pq.u8_mod, Pq.u8_mod]; omega
  have kN : (N : Int) ≤ 8 := by omega
  have kE : (E : Int) ≤ 16 := by omega
  have kU : (U : Int) ≤ 64 := by omega
  have kR : (R : Int) ≤ 2040 := by omega
  clear hbN hbE hbU hbL1 hbL0 hbI1 hbI0 hbR1 hbR0 b0 b1 b2 b3 b4 b5 hL hI hE hU hN hR iL iI iE iU iN iR
  have HX : Hid (Bx W ((v1.alloc (.cells #[.int .i64 3, .int .i64 1] 3)).alloc (.cells #[.int .i64 2, .int .i64 (N : Int), .int .i64 4, .int .i64 (L : Int), .int .i64 (E : Int), .int .i64 (U : Int), .int .i64 (I : Int), .int .u32 (R : Int), .slice (some ⟨v1.heap.size, 0, none⟩) 2 2, .slice none 0 0, .slice none 0 0] 27)) (v1.heap.size + 1) ⟨2, N, 4, L, E, U, I, R, [3, 1], [], []⟩ ⟨some ⟨v1.heap.size, 0, none⟩, 2, none, 0, none, 0⟩) := Bx.lit hA.out ⟨2, N, 4, L, E, U, I, R, [3, 1], [], []⟩ 2 rfl (by decide) rfl rfl
  generalize (v1.alloc (.cells #[.int .i64 3, .int .i64 1] 3)).alloc (.cells #[.int .i64 2, .int .i64 (N : Int), .int .i64 4, .int .i64 (L : Int), .int .i64 (E : Int), .int .i64 (U : Int), .int .i64 (I : Int), .int .u32 (R : Int), .slice (some ⟨v1.heap.size, 0, none⟩) 2 2, .slice none 0 0, .slice none 0 0] 27) = v2 at HX ⊢
  have hpc := S.print v2 _ _ (HQ.out _ HX.out.below) HX.out.mem (Mx.small_is hi) (Mx.wf_is hi)
  rw [hpr] at hpc
  clear hi hpr hA
  have HT4 : Hid (∀ w, Calls Tryd.prog 18 #[.string ⟨[79, 2, bN, 4, bL1, bL0, bE, bU, bI1, bI0, bR1, bR0, 2, 3, 1, 0, 0].toArray⟩, .int .i64 4] w fun e w' => e = .returned (.int .i64 (L : Int)) ∧ Below w.heap.size w w') := fun w => by have := two13_any w ⟨[79, 2, bN, 4, bL1, bL0, bE, bU, bI1, bI0, bR1, bR0, 2, 3, 1, 0, 0].toArray⟩ 4 (by show 5 < 17; decide) (by show 17 ≤ 1000; decide) _ _ rfl rfl; exact uL ▸ this
  have HT8 : Hid (∀ w, Calls Tryd.prog 18 #[.string ⟨[79, 2, bN, 4, bL1, bL0, bE, bU, bI1, bI0, bR1, bR0, 2, 3, 1, 0, 0].toArray⟩, .int .i64 8] w fun e w' => e = .returned (.int .i64 (I : Int)) ∧ Below w.heap.size w w') := fun w => by have := two13_any w ⟨[79, 2, bN, 4, bL1, bL0, bE, bU, bI1, bI0, bR1, bR0, 2, 3, 1, 0, 0].toArray⟩ 8 (by show 9 < 17; decide) (by show 17 ≤ 1000; decide) _ _ rfl rfl; exact uI ▸ this
  have HTa : Hid (∀ w, Calls Tryd.prog 18 #[.string ⟨[79, 2, bN, 4, bL1, bL0, bE, bU, bI1, bI0, bR1, bR0, 2, 3, 1, 0, 0].toArray⟩, .int .i64 10] w fun e w' => e = .returned (.int .i64 (R : Int)) ∧ Below w.heap.size w w') := fun w => by have := two13_any w ⟨[79, 2, bN, 4, bL1, bL0, bE, bU, bI1, bI0, bR1, bR0, 2, 3, 1, 0, 0].toArray⟩ 10 (by show 11 < 17; decide) (by show 17 ≤ 1000; decide) _ _ rfl rfl; exact uR ▸ this
  have hszz : (⟨[79, 2, bN, 4, bL1, bL0, bE, bU, bI1, bI0, bR1, bR0, 2, 3, 1, 0, 0].toArray⟩ : ByteArray).size = 17 := rfl
  clear uL uI uR
  have x0 : ∀ W, (Instr.index 9 (.string ⟨[79, 2, bN, 4, bL1, bL0, bE, bU, bI1, bI0, bR1, bR0, 2, 3, 1, 0, 0].toArray⟩) (.int .i64 0)).run Tryd.prog W = .ok (.int .u8 79) W := fun W => by have := run_idx13 (P := Tryd.prog) 9 Tryd.underlying9 ⟨[79, 2, bN, 4, bL1, bL0, bE, bU, bI1, bI0, bR1, bR0, 2, 3, 1, 0, 0].toArray⟩ 0 0 rfl (by show 0 < 17; decide) W; exact this
  have x1 : ∀ W, (Instr.index 9 (.string ⟨[79, 2, bN, 4, bL1, bL0, bE, bU, bI1, bI0, bR1, bR0, 2, 3, 1, 0, 0].toArray⟩) (.int .i64 1)).run Tryd.prog W = .ok (.int .u8 2) W := fun W => by have := run_idx13 (P := Tryd.prog) 9 Tryd.underlying9 ⟨[79, 2, bN, 4, bL1, bL0, bE, bU, bI1, bI0, bR1, bR0, 2, 3, 1, 0, 0].toArray⟩ 1 1 rfl (by show 1 < 17; decide) W; exact this
  have x2 : ∀ W, (Instr.index 9 (.string ⟨[79, 2, bN, 4, bL1, bL0, bE, bU, bI1, bI0, bR1, bR0, 2, 3, 1, 0, 0].toArray⟩) (.int .i64 2)).run Tryd.prog W = .ok (.int .u8 (N : Int)) W := fun W => by have := run_idx13 (P := Tryd.prog) 9 Tryd.underlying9 ⟨[79, 2, bN, 4, bL1, bL0, bE, bU, bI1, bI0, bR1, bR0, 2, 3, 1, 0, 0].toArray⟩ 2 2 rfl (by show 2 < 17; decide) W; exact uN ▸ this
  have x3 : ∀ W, (Instr.index 9 (.string ⟨[79, 2, bN, 4, bL1, bL0, bE, bU, bI1, bI0, bR1, bR0, 2, 3, 1, 0, 0].toArray⟩) (.int .i64 3)).run Tryd.prog W = .ok (.int .u8 4) W := fun W => by have := run_idx13 (P := Tryd.prog) 9 Tryd.underlying9 ⟨[79, 2, bN, 4, bL1, bL0, bE, bU, bI1, bI0, bR1, bR0, 2, 3, 1, 0, 0].toArray⟩ 3 3 rfl (by show 3 < 17; decide) W; exact this
  have x6 : ∀ W, (Instr.index 9 (.string ⟨[79, 2, bN, 4, bL1, bL0, bE, bU, bI1, bI0, bR1, bR0, 2, 3, 1, 0, 0].toArray⟩) (.int .i64 6)).run Tryd.prog W = .ok (.int .u8 (E : Int)) W := fun W => by have := run_idx13 (P := Tryd.prog) 9 Tryd.underlying9 ⟨[79, 2, bN, 4, bL1, bL0, bE, bU, bI1, bI0, bR1, bR0, 2, 3, 1, 0, 0].toArray⟩ 6 6 rfl (by show 6 < 17; decide) W; exact uE ▸ this
  have x7 : ∀ W, (Instr.index 9 (.string ⟨[79, 2, bN, 4, bL1, bL0, bE, bU, bI1, bI0, bR1, bR0, 2, 3, 1, 0, 0].toArray⟩) (.int .i64 7)).run Tryd.prog W = .ok (.int .u8 (U : Int)) W := fun W => by have := run_idx13 (P := Tryd.prog) 9 Tryd.underlying9 ⟨[79, 2, bN, 4, bL1, bL0, bE, bU, bI1, bI0, bR1, bR0, 2, 3, 1, 0, 0].toArray⟩ 7 7 rfl (by show 7 < 17; decide) W; exact uU ▸ this
  have x12 : ∀ W, (Instr.index 9 (.string ⟨[79, 2, bN, 4, bL1, bL0, bE, bU, bI1, bI0, bR1, bR0, 2, 3, 1, 0, 0].toArray⟩) (.int .i64 12)).run Tryd.prog W = .ok (.int .u8 2) W := fun W => by have := run_idx13 (P := Tryd.prog) 9 Tryd.underlying9 ⟨[79, 2, bN, 4, bL1, bL0, bE, bU, bI1, bI0, bR1, bR0, 2, 3, 1, 0, 0].toArray⟩ 12 12 rfl (by show 12 < 17; decide) W; exact this
  have x13 : ∀ W, (Instr.index 9 (.string ⟨[79, 2, bN, 4, bL1, bL0, bE, bU, bI1, bI0, bR1, bR0, 2, 3, 1, 0, 0].toArray⟩) (.int .i64 13)).run Tryd.prog W = .ok (.int .u8 3) W := fun W => by have := run_idx13 (P := Tryd.prog) 9 Tryd.underlying9 ⟨[79, 2, bN, 4, bL1, bL0, bE, bU, bI1, bI0, bR1, bR0, 2, 3, 1, 0, 0].toArray⟩ 13 13 rfl (by show 13 < 17; decide) W; exact this
  have x14 : ∀ W, (Instr.index 9 (.string ⟨[79, 2, bN, 4, bL1, bL0, bE, bU, bI1, bI0, bR1, bR0, 2, 3, 1, 0, 0].toArray⟩) (.int .i64 14)).run Tryd.prog W = .ok (.int .u8 1) W := fun W => by have := run_idx13 (P := Tryd.prog) 9 Tryd.underlying9 ⟨[79, 2, bN, 4, bL1, bL0, bE, bU, bI1, bI0, bR1, bR0, 2, 3, 1, 0, 0].toArray⟩ 14 14 rfl (by show 14 < 17; decide) W; exact this
  have x15 : ∀ W, (Instr.index 9 (.string ⟨[79, 2, bN, 4, bL1, bL0, bE, bU, bI1, bI0, bR1, bR0, 2, 3, 1, 0, 0].toArray⟩) (.int .i64 15)).run Tryd.prog W = .ok (.int .u8 0) W := fun W => by have := run_idx13 (P := Tryd.prog) 9 Tryd.underlying9 ⟨[79, 2, bN, 4, bL1, bL0, bE, bU, bI1, bI0, bR1, bR0, 2, 3, 1, 0, 0].toArray⟩ 15 15 rfl (by show 15 < 17; decide) W; exact this
  have x16 : ∀ W, (Instr.index 9 (.string ⟨[79, 2, bN, 4, bL1, bL0, bE, bU, bI1, bI0, bR1, bR0, 2, 3, 1, 0, 0].toArray⟩) (.int .i64 16)).run Tryd.prog W = .ok (.int .u8 0) W := fun W => by have := run_idx13 (P := Tryd.prog) 9 Tryd.underlying9 ⟨[79, 2, bN, 4, bL1, bL0, bE, bU, bI1, bI0, bR1, bR0, 2, 3, 1, 0, 0].toArray⟩ 16 16 rfl (by show 16 < 17; decide) W; exact this
  generalize (⟨[79, 2, bN, 4, bL1, bL0, bE, bU, bI1, bI0, bR1, bR0, 2, 3, 1, 0, 0].toArray⟩ : ByteArray) = s at *
  clear uN uE uU
  refine (hpc).mono ?_
  rintro e v3 ⟨rfl, hb⟩
  replace HX : Hid (Bx W v3 (v1.heap.size + 1) ⟨2, N, 4, L, E, U, I, R, [3, 1], [], []⟩ ⟨some ⟨v1.heap.size, 0, none⟩, 2, none, 0, none, 0⟩) := HX.out.on hb
  clear hb
  have HY : Hid (∀ w', Below v3.heap.size v3 w' → w'.cell? ⟨v1.heap.size + 1, 1, none⟩ = some (.int .i64 (N : Int)) ∧ w'.cell? ⟨v1.heap.size + 1, 3, none⟩ = some (.int .i64 (L : Int)) ∧ w'.cell? ⟨v1.heap.size + 1, 4, none⟩ = some (.int .i64 (E : Int)) ∧ w'.cell? ⟨v1.heap.size + 1, 5, none⟩ = some (.int .i64 (U : Int)) ∧ w'.cell? ⟨v1.heap.size + 1, 6, none⟩ = some (.int .i64 (I : Int)) ∧ w'.cell? ⟨v1.heap.size + 1, 7, none⟩ = some (.int .u32 (R : Int))) := fun w' hb => by
    obtain ⟨_, z1, _, z3, z4, z5, z6, z7, _⟩ := (HX.out.on hb).row.mat
    exact ⟨z1, z3, z4, z5, z6, z7⟩
  have HB : Hid (Below W.heap.size W v3) := HX.out.below
  clear HX
  go_wp2_with fail
  simp only [List.append_eq, List.cons_append, List.nil_append]
  refine Lw.wp_region_quiet_below (by kernel_rfl) (by kernel_rfl) ?_
  repeat (first
    | go_big_quiet_skip
    | (go_big_quiet_want; go_big_quiet_op; go_big_quiet_on)
    | (go_big_quiet_want; go_big_quiet_op; apply Exists.intro; refine ⟨fun _ hb' => ?_, ?_⟩; (first
      | exact Lw.val_rfl _
      | (go_at_call_of 18 (Value.int .i64 4); exact Lw.calls_below hb' (HT4.out _))
      | (go_at_call_of 18 (Value.int .i64 8); exact Lw.calls_below hb' (HT8.out _))
      | (go_at_call_of 18 (Value.int .i64 10); exact Lw.calls_below hb' (HTa.out _))
      | (simp [go_sem, (HY.out _ hb').1]; rfl)
      | (simp [go_sem, (HY.out _ hb').2.1]; rfl)
      | (simp [go_sem, (HY.out _ hb').2.2.1]; rfl)
      | (simp [go_sem, (HY.out _ hb').2.2.2.1]; rfl)
      | (simp [go_sem, (HY.out _ hb').2.2.2.2.1]; rfl)
      | (simp [go_sem, (HY.out _ hb').2.2.2.2.2]; rfl)
      | (simp [go_sem, x0]; rfl)
      | (simp [go_sem, x1]; rfl)
      | (simp [go_sem, x2]; rfl)
      | (simp [go_sem, x3]; rfl)
      | (simp [go_sem, x6]; rfl)
      | (simp [go_sem, x7]; rfl)
      | (simp [go_sem, x12]; rfl)
      | (simp [go_sem, x13]; rfl)
      | (simp [go_sem, x14]; rfl)
      | (simp [go_sem, x15]; rfl)
      | (simp [go_sem, x16]; rfl)); go_big_quiet_on))
  refine wpQuiet_nil ?_
  intro wz hbz
  have HBz : Hid (Below W.heap.size W wz) := HB.out.trans (hbz.mono HB.out.size)
  clear hbz
  go_wp2
  go_ret
  exact ⟨rfl, HBz.out⟩
end Go.Proofs.YtcdalfhmmipiaaaDoor.configFields
