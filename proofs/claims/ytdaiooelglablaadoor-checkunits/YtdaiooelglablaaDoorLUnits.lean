/- CheckUnits: so many units are as long as so many bits, at least, and not two longer; for every two numbers; no condition. -/
import Derived.Test.YtdaiooelglablaaDoorL6
import Derived.ProofKit
import Derived.OpenShut
namespace Go.Proofs.YtdaiooelglablaaDoor.checkUnits
open Go.ChangeShapes Go.WideShapes Go.ChangeAt Go.RowKit
set_option linter.unusedVariables false
variable {Q : World → Prop}
theorem natU16 {x : Int} (h : (Lit.int .u16 x).wf = true) : ∃ n : Nat, x = (n : Int) ∧ n < 65536 := by
  obtain ⟨h1, h2⟩ := bounds_u16 h
  obtain ⟨n, rfl⟩ := Int.eq_ofNat_of_zero_le h1
  exact ⟨n, rfl, by omega⟩
theorem natU8 {x : Int} (h : (Lit.int .u8 x).wf = true) : ∃ n : Nat, x = (n : Int) ∧ n < 256 := by
  obtain ⟨h1, h2⟩ := bounds_u8 h
  obtain ⟨n, rfl⟩ := Int.eq_ofNat_of_zero_le h1
  exact ⟨n, rfl, by omega⟩
theorem units_ge {U B : Nat} (hU : 1 ≤ U) (hB : B ≤ 1000) : (B : Int) * 4 ≤ (Lq.units U B - 1) * U ∧ (Lq.units U B - 2) * U < (B : Int) * 4 + (if B = 0 then 0 else 0) := by
  have e1 : max 0 (min (B : Int) 1000) = (B : Int) := by omega
  have e2 : max 1 (U : Int) = (U : Int) := by omega
  unfold Lq.units
  rw [e1, e2]
  have h1 := Int.emod_add_mul_ediv (4 * (B : Int)) (U : Int)
  have h2 := Int.emod_nonneg (4 * (B : Int)) (show (U : Int) ≠ 0 by omega)
  have h3 := Int.emod_lt_of_pos (4 * (B : Int)) (show (0 : Int) < U by omega)
  generalize 4 * (B : Int) / (U : Int) = q at *
  generalize 4 * (B : Int) % (U : Int) = r at *
  have hc : (U : Int) * q = q * U := Int.mul_comm _ _
  rw [hc] at h1
  by_cases hr : r = 0
  · rw [if_pos hr]
    have a1 : (q + 0 + 1 - 1) * (U : Int) = q * U := by congr 1; omega
    have a2 : (q + 0 + 1 - 2) * (U : Int) = q * U - U := by rw [show q + 0 + 1 - 2 = q - 1 by omega, Int.sub_mul, Int.one_mul]
    rw [a1, a2]
    constructor
    · omega
    · split <;> omega
  · rw [if_neg hr]
    have a1 : (q + 1 + 1 - 1) * (U : Int) = q * U + U := by rw [show q + 1 + 1 - 1 = q + 1 by omega, Int.add_mul, Int.one_mul]
    have a2 : (q + 1 + 1 - 2) * (U : Int) = q * U := by congr 1; omega
    rw [a1, a2]
    constructor
    · omega
    · split <;> omega
set_option maxRecDepth 100000 in
set_option maxHeartbeats 16000000 in
theorem walkA (hQ : ∀ w w', Q w → Below w.heap.size w w' → Q w') (S : CheckSpec Q) (c0 : Int) (w0 : (Lit.int .u8 c0).wf = true) (c1 : Int) (w1 : (Lit.int .u16 c1).wf = true) (W : World) (hW : Q W) :
    Calls Tryd.prog 6 #[.int .u8 c0, .int .u16 c1] W fun e w' => e = .returned (.bool true) ∧ Below W.heap.size W w' := by
  have HQ : Hid (∀ w, Below W.heap.size W w → Q w) := fun w hb => hQ W w hW hb
  have HK : Hid (∀ w, Below W.heap.size W w → Calls Tryd.prog 9 #[] w fun e w' => e = .returned (.bool true) ∧ Below w.heap.size w w') := fun w hb => known14_any hQ S w (HQ.out _ hb)
  obtain ⟨c0, rfl, b0⟩ := natU8 w0
  obtain ⟨c1, rfl, b1⟩ := natU16 w1
  have hA : Hid (Below W.heap.size W W) := Below.refl _ _
  obtain ⟨U, hU⟩ : ∃ U : Nat, c0 % 64 + 1 = U := ⟨_, rfl⟩
  obtain ⟨B, hB⟩ : ∃ B : Nat, c1 % 1001 = B := ⟨_, rfl⟩
  have iU : (c0 : Int) % 64 + 1 = (U : Int) := by omega
  have iB : (c1 : Int) % 1001 = (B : Int) := by omega
  have u1 : 1 ≤ U ∧ U ≤ 64 := by omega
  have u2 : B ≤ 1000 := by omega
  obtain ⟨g1, g2⟩ := units_ge u1.1 u2
  have hub := Lq.units_bound14 (u := (U : Int)) (b := (B : Int))
  have hi : Mx.is { Mx.l14 with unit := (U : Int) } = true := by
    simp [Mx.is, Mx.scal, Mx.lens, Mx.within, Mx.power, Mx.l14, Mx.msgOk]
    omega
  have hst : Lq.step { Mx.l14 with unit := (U : Int) } = Lq.units (U : Int) 140 + 2 := by unfold Lq.step; rw [if_pos hi]; rfl
  have hub2 := Lq.units_bound14 (u := (U : Int)) (b := 140)
  have HU : Hid (∀ (w : World) (p : Nat) (a : Ma) (bits : Int), Mb W w p { Mx.l14 with unit := (U : Int) } a → (Lit.int .i64 bits).wf = true → Calls Tryd.prog 15 #[mV { Mx.l14 with unit := (U : Int) } a, .int .i64 bits] w fun e w' => e = .returned (.int .i64 (Lq.units (U : Int) bits)) ∧ Below w.heap.size w w') := fun w p a bits h hb => S.units w _ a bits (HQ.out _ h.bel) h.mem (Mx.small_is hi) (Mx.wf_is hi) hb
  have HSt : Hid (∀ (w : World) (p : Nat) (a : Ma), Mb W w p { Mx.l14 with unit := (U : Int) } a → Calls Tryd.prog 17 #[mV { Mx.l14 with unit := (U : Int) } a] w fun e w' => e = .returned (.int .i64 (Lq.units (U : Int) 140 + 2)) ∧ Below w.heap.size w w') := fun w p a h => by
    have := S.step w _ a (HQ.out _ h.bel) h.mem (Mx.small_is hi) (Mx.wf_is hi)
    rw [hst] at this
    exact this
  have k1 : (U : Int) ≤ 64 := by omega
  have k2 : (B : Int) ≤ 1000 := by omega
  have HBw : Hid ((Lit.int .i64 (B : Int)).wf = true) := wfi (by omega)
  have H14 : Hid ((Lit.int .i64 (140 : Int)).wf = true) := wfi (by omega)
  clear hQ hW w0 w1 hU hB hi hst
  have HU1 : Hid (∀ (w : World) (p : Nat) (a : Ma), Mb W w p { Mx.l14 with unit := (U : Int) } a → Calls Tryd.prog 15 #[mV { Mx.l14 with unit := (U : Int) } a, .int .i64 (B : Int)] w fun e w' => e = .returned (.int .i64 (Lq.units (U : Int) (B : Int))) ∧ Below w.heap.size w w') := fun w p a h => HU.out w p a _ h HBw.out
  have HU2 : Hid (∀ (w : World) (p : Nat) (a : Ma), Mb W w p { Mx.l14 with unit := (U : Int) } a → Calls Tryd.prog 15 #[mV { Mx.l14 with unit := (U : Int) } a, .int .i64 140] w fun e w' => e = .returned (.int .i64 (Lq.units (U : Int) 140)) ∧ Below w.heap.size w w') := fun w p a h => HU.out w p a _ h H14.out
  clear HU
  generalize Lq.units (U : Int) (B : Int) = V at *
  generalize Lq.units (U : Int) 140 = V2 at *
  obtain ⟨v1, v2⟩ := hub
  obtain ⟨v3, v4⟩ := hub2
  obtain ⟨P1, hP1⟩ : ∃ P1, (V - 1) * (U : Int) = P1 := ⟨_, rfl⟩
  obtain ⟨P2, hP2⟩ : ∃ P2, (V - 2) * (U : Int) = P2 := ⟨_, rfl⟩
  rw [hP1] at g1
  rw [hP2] at g2
  have g3 : P2 < (B : Int) * 4 := by
    have : (if B = 0 then (0 : Int) else 0) = 0 := by split <;> rfl
    omega
  have p1 : P1 ≤ 300000 := by
    rw [← hP1]
    have : (V - 1) * (U : Int) ≤ 4001 * 64 := Int.mul_le_mul (by omega) (by omega) (by omega) (by omega)
    omega
  have p2 : -300000 ≤ P2 := by
    rw [← hP2]
    have : (V - 2) * (U : Int) = V * U - 2 * U := Int.sub_mul _ _ _
    have h0 : 0 ≤ V * (U : Int) := Int.mul_nonneg (by omega) (by omega)
    omega
  have hq1 : 0 ≤ P1 := by omega
  clear g2
  go_enter Tryd.func6, Tryd.ntmps6
  go_wp2_with fail
  refine (HK.out _ hA.out).mono ?_
  rintro e z1 ⟨rfl, hb⟩
  replace hA : Hid (Below W.heap.size W z1) := hA.out.trans (hb.mono hA.out.size)
  clear hb HK
  go_wp2_with fail
  refine (least14_any z1).mono ?_
  rintro e z1b ⟨a, rfl, hO, hb⟩
  have HX : Hid (Mb W (z1b.alloc (.cells #[.int .i64 Mx.l14.level, .int .i64 Mx.l14.nodes, .int .i64 Mx.l14.cycles, .int .i64 Mx.l14.length, .int .i64 Mx.l14.enable, .int .i64 Mx.l14.unit, .int .i64 Mx.l14.init, .int .u32 (Mx.l14.ref : Int), .slice a.s1 Mx.l14.masters.length a.c1, .slice a.s2 Mx.l14.messages.length a.c2, .slice a.s3 Mx.l14.windows.length a.c3] 27)) z1b.heap.size Mx.l14 a) := Mb.of (hO.mono hA.out.size) (hA.out.trans (hb.mono hA.out.size))
  clear hO hb hA
  dsimp only [mV, mCs]
  go_upto_region 4 with fail
  generalize z1b.alloc (.cells #[.int .i64 Mx.l14.level, .int .i64 Mx.l14.nodes, .int .i64 Mx.l14.cycles, .int .i64 Mx.l14.length, .int .i64 Mx.l14.enable, .int .i64 Mx.l14.unit, .int .i64 Mx.l14.init, .int .u32 (Mx.l14.ref : Int), .slice a.s1 Mx.l14.masters.length a.c1, .slice a.s2 Mx.l14.messages.length a.c2, .slice a.s3 Mx.l14.windows.length a.c3] 27) = z2 at HX ⊢
  generalize z1b.heap.size = p at HX ⊢
  have q5 : z2.cell? ⟨p, 5, none⟩ = some (.int .i64 16) := HX.out.row.c 5 _ rfl
  have f5 := HX.out.row.f 5
  replace HX : Hid (Mb W (z2.setCell ⟨p, 5, none⟩ (.int .i64 (U : Int))) p { Mx.l14 with unit := (U : Int) } a) := HX.out.word 5 _ rfl rfl rfl rfl
  go_upto_region 5 with fail
  generalize z2.setCell ⟨p, 5, none⟩ (.int .i64 (U : Int)) = z3 at HX ⊢
  clear q5 f5 b0 b1
  obtain ⟨y0, y1, y2, y3, y4, y5, y6, y7, y8, y9, y10⟩ := HX.out.row.mat
  go_wp2_with fail
  refine (HU1.out _ p a HX.out).mono ?_
  rintro e w4 ⟨rfl, hb⟩
  replace HX : Hid (Mb W w4 p { Mx.l14 with unit := (U : Int) } a) := HX.out.on hb
  clear y0 y1 y10 y2 y3 y4 y5 y6 y7 y8 y9
  clear hb
  have HR : Hid (∀ w', Below w4.heap.size w4 w' → RowT 27 w' p (mCs { Mx.l14 with unit := (U : Int) } a)) := fun w' hb => (HX.out.on hb).row
  have H1 : Hid (∀ w', Below w4.heap.size w4 w' → Calls Tryd.prog 17 #[mV { Mx.l14 with unit := (U : Int) } a] w' fun e w'' => e = .returned (.int .i64 (V2 + 2)) ∧ Below w'.heap.size w' w'') := fun w' hb => HSt.out w' p a (HX.out.on hb)
  have H2 : Hid (∀ w', Below w4.heap.size w4 w' → Calls Tryd.prog 15 #[mV { Mx.l14 with unit := (U : Int) } a, .int .i64 140] w' fun e w'' => e = .returned (.int .i64 V2) ∧ Below w'.heap.size w' w'') := fun w' hb => HU2.out w' p a (HX.out.on hb)
  have HB : Hid (Below W.heap.size W w4) := HX.out.bel
  clear HX HU1 HU2 HSt
  go_wp2_with fail
  refine Lw.wp_region_quiet_below (by kernel_rfl) (by kernel_rfl) ?_
  repeat (first
    | go_big_quiet_skip
    | (go_big_quiet_want; go_big_quiet_op; go_big_quiet_on)
    | (go_big_quiet_want; go_big_quiet_op; apply Exists.intro; refine ⟨fun _ hb' => ?_, ?_⟩; (first
      | exact Lw.val_rfl _
      | (go_at_call 17; exact Lw.calls_below hb' (H1.out _ hb'))
      | (go_at_call 15; exact Lw.calls_below hb' (H2.out _ hb'))
      | (simp [go_sem, (HR.out _ hb').mat.2.2.2.2.2.1]; rfl)
      | (simp [go_sem, (HR.out _ hb').mat.1, (HR.out _ hb').mat.2.1, (HR.out _ hb').mat.2.2.1, (HR.out _ hb').mat.2.2.2.1, (HR.out _ hb').mat.2.2.2.2.1, (HR.out _ hb').mat.2.2.2.2.2.1, (HR.out _ hb').mat.2.2.2.2.2.2.1, (HR.out _ hb').mat.2.2.2.2.2.2.2.1, (HR.out _ hb').mat.2.2.2.2.2.2.2.2.1, (HR.out _ hb').mat.2.2.2.2.2.2.2.2.2.1, (HR.out _ hb').mat.2.2.2.2.2.2.2.2.2.2]; rfl)); go_big_quiet_on))
  refine wpQuiet_nil ?_
  intro wz hbz
  have HBz : Hid (Below W.heap.size W wz) := HB.out.trans (hbz.mono HB.out.size)
  clear hbz
  go_wp2
  go_ret
  exact ⟨rfl, HBz.out⟩
end Go.Proofs.YtdaiooelglablaaDoor.checkUnits
