/- Package clock, over the landed code: a clock is four words of 16 bits. -/
import Derived.Test.YtjjahfmjiinpcaaC1
import Derived.Test.YtjjahfmjiinpcaaU2
import Derived.OpenShut
namespace Go.Proofs.Ytjjahfmjiinpcaa
open Go.RowKit Go.WideShapes
set_option linter.unusedVariables false
def kcs (unit num part t : Int) : Array Value := #[.int .u16 unit, .int .u16 num, .int .u16 part, .int .u16 t]
def KRow (w : World) (p : Nat) (cs : Array Value) : Prop := w.heap[p]? = some (.cells cs 50 (0, 0))
theorem KRow.lt {w : World} {p : Nat} {cs : Array Value} (h : KRow w p cs) : p < w.heap.size := (Array.getElem?_eq_some_iff.1 h).1
theorem KRow.c {w : World} {p : Nat} {cs : Array Value} (h : KRow w p cs) (k : Nat) (v : Value) (hv : cs[k]? = some v) : w.cell? ⟨p, k, none⟩ = some v := by rw [cell_of_row _ _ _ _ _ _ h]; exact hv
theorem KRow.on {w w' : World} {p : Nat} {cs : Array Value} (h : KRow w p cs) (hb : Below w.heap.size w w') : KRow w' p cs := (hb.block p h.lt).trans h
theorem KRow.f {w : World} {p : Nat} {cs : Array Value} (h : KRow w p cs) (k : Nat) : w.frozen? ⟨p, k, none⟩ = false := frozen_of_row _ _ k _ _ h
theorem KRow.set {w : World} {p : Nat} {cs : Array Value} (h : KRow w p cs) (k : Nat) (v : Value) : KRow (w.setCell ⟨p, k, none⟩ v) p (cs.setIfInBounds k v) := heap_setCell_same _ _ _ _ _ _ h
theorem u16w {x : Int} (h1 : 0 ≤ x) (h2 : x < 65536) : IntKind.u16.wrap x = x := by rw [IntKind.wrap_u16]; omega
def ClockAt : Ob.A Ck.St := fun w p F c => F = (fun j => j = p) ∧ KRow w p (kcs c.unit c.num c.part c.t) ∧ Ck.Ok c
theorem ckIs : Ob.Is ClockAt where
  on := by
    rintro w w' p F c ⟨rfl, h, ok⟩ hk
    exact ⟨rfl, (hk p rfl).trans h, ok⟩
  lt := by
    rintro w p F c ⟨rfl, h, ok⟩ g rfl
    exact h.lt
set_option maxRecDepth 100000 in
set_option maxHeartbeats 1000000 in
theorem ck_new (w : World) (u : Int) : Ob.Makes Try.prog ClockAt 10 #[.int .i64 u] w (Ck.new u) := by
  obtain ⟨n0, hn0⟩ : ∃ n0 : Int, max u 1 = n0 := ⟨_, rfl⟩
  obtain ⟨m0, hm0⟩ : ∃ m0 : Int, min n0 64 = m0 := ⟨_, rfl⟩
  have hu : m0 = (Ck.hold u : Int) := by unfold Ck.hold; omega
  have h1 := Ck.hold_in u
  have HO : Hid (Ck.Ok (Ck.new u)) := Ck.ok_new u
  have HE : Hid (Ck.new u = ⟨0, 0, 256 * Ck.hold u, Ck.hold u⟩) := rfl
  unfold Ob.Makes
  rw [HE.out] at HO ⊢
  generalize Ck.hold u = U at *
  subst hu
  clear HE
  have e1 : IntKind.u16.wrap (U : Int) = (U : Int) := u16w (by omega) (by omega)
  have e2 : IntKind.u16.wrap (256 * (U : Int)) = 256 * (U : Int) := u16w (by omega) (by omega)
  have e3 : IntKind.u16.wrap ((U : Int) * 256) = 256 * (U : Int) := by rw [Int.mul_comm]; exact e2
  go_enter Try.func10, Try.ntmps10
  go_wp2
  go_ret
  refine ⟨_, _, rfl, ⟨rfl, ?_, HO.out⟩, fun g hg => by omega, ?_⟩
  · exact heap_alloc_new _ _
  · exact (Below.refl _ _).alloc (Nat.le_refl _) _
set_option maxRecDepth 100000 in
set_option maxHeartbeats 1000000 in
theorem ck_time (w : World) (p : Nat) (F : Nat → Prop) (c : Ck.St) (h : ClockAt w p F c) : Ob.Looks Try.prog 18 #[Ob.ptr p] w (.int .u16 (c.t : Int)) := by
  obtain ⟨rfl, hr, ok⟩ := h
  have c3 : w.cell? ⟨p, 3, none⟩ = some (.int .u16 (c.t : Int)) := hr.c 3 _ rfl
  unfold Ob.Looks
  go_enter Try.func18, Try.ntmps18
  go_wp2
  go_ret
  exact ⟨rfl, Below.refl _ _⟩
set_option maxRecDepth 100000 in
set_option maxHeartbeats 1000000 in
theorem ck_part (w : World) (p : Nat) (F : Nat → Prop) (c : Ck.St) (h : ClockAt w p F c) : Ob.Looks Try.prog 19 #[Ob.ptr p] w (.int .i64 (c.part : Int)) := by
  obtain ⟨rfl, hr, ok⟩ := h
  obtain ⟨o1, o2, o3, o4, o5, o6⟩ := ok
  have c2 : w.cell? ⟨p, 2, none⟩ = some (.int .u16 (c.part : Int)) := hr.c 2 _ rfl
  have b1 : (c.part : Int) ≤ 18432 := by omega
  unfold Ob.Looks
  go_enter Try.func19, Try.ntmps19
  go_wp2
  go_ret
  exact ⟨rfl, Below.refl _ _⟩
set_option maxRecDepth 100000 in
set_option maxHeartbeats 1000000 in
theorem ck_rate (w : World) (p : Nat) (F : Nat → Prop) (c : Ck.St) (h : ClockAt w p F c) : Ob.Looks Try.prog 17 #[Ob.ptr p] w (.tuple #[.int .i64 (c.num : Int), .int .i64 256]) := by
  obtain ⟨rfl, hr, ok⟩ := h
  obtain ⟨o1, o2, o3, o4, o5, o6⟩ := ok
  have c1 : w.cell? ⟨p, 1, none⟩ = some (.int .u16 (c.num : Int)) := hr.c 1 _ rfl
  have b1 : (c.num : Int) ≤ 18432 := by omega
  unfold Ob.Looks
  go_enter Try.func17, Try.ntmps17
  go_wp2
  go_ret2
  exact ⟨rfl, Below.refl _ _⟩
set_option maxRecDepth 100000 in
set_option maxHeartbeats 1000000 in
theorem ck_since (w : World) (a b : Nat) (ha : a < 65536) (hb : b < 65536) : Ob.Looks Try.prog 20 #[.int .u16 (a : Int), .int .u16 (b : Int)] w (.int .i64 (Ck.since a b : Int)) := by
  obtain ⟨D, hD⟩ : ∃ D, Ck.since a b = D := ⟨_, rfl⟩
  have e1 : IntKind.u16.wrap ((b : Int) - (a : Int)) = (D : Int) := by rw [IntKind.wrap_u16, ← hD]; unfold Ck.since; omega
  have e2 : (D : Int) ≤ 65535 := by rw [← hD]; unfold Ck.since; omega
  rw [hD]
  clear hD ha hb
  unfold Ob.Looks
  go_enter Try.func20, Try.ntmps20
  go_wp2
  go_ret
  exact ⟨rfl, Below.refl _ _⟩
set_option maxRecDepth 100000 in
set_option maxHeartbeats 1000000 in
theorem ck_near (w : World) (p : Nat) (F : Nat → Prop) (c : Ck.St) (num den : Int) (h : ClockAt w p F c) : Calls Try.prog 21 #[Ob.ptr p, .int .i64 num, .int .i64 den] w fun e w' => e = .returned (.bool (Ck.may c num den)) ∧ w' = w := by
  obtain ⟨rfl, hr, ok⟩ := h
  obtain ⟨o1, o2, o3, o4, o5, o6⟩ := ok
  have c0 : w.cell? ⟨p, 0, none⟩ = some (.int .u16 (c.unit : Int)) := hr.c 0 _ rfl
  have hm : Ck.may c num den = (decide (den = 256) && decide (224 * (c.unit : Int) ≤ num) && decide (num ≤ 288 * (c.unit : Int))) := by
    unfold Ck.may; rw [Bool.decide_and, Bool.decide_and, Bool.and_assoc]
  rw [hm]
  generalize c.unit = U at *
  have b1 : (U : Int) ≤ 64 := by omega
  have b2 : 1 ≤ (U : Int) := by omega
  clear hm hr o3 o4 o5 o6
  by_cases hd : den = 256
  · have hd' : decide (den = 256) = true := decide_eq_true hd
    rw [hd']
    subst hd
    by_cases h1 : 224 * (U : Int) ≤ num
    · have h1' : decide (224 * (U : Int) ≤ num) = true := decide_eq_true h1
      rw [h1']
      have g1 : (U : Int) * 224 ≤ num := by omega
      by_cases h2 : num ≤ 288 * (U : Int)
      · rw [decide_eq_true h2]
        have g2 : num ≤ (U : Int) * 288 := by omega
        go_enter Try.func21, Try.ntmps21
        go_wp2
        go_ret
        exact ⟨rfl, rfl⟩
      · rw [decide_eq_false h2]
        have g2 : ¬ num ≤ (U : Int) * 288 := by omega
        go_enter Try.func21, Try.ntmps21
        go_wp2
        go_ret
        exact ⟨rfl, rfl⟩
    · rw [decide_eq_false h1]
      have g1 : ¬ (U : Int) * 224 ≤ num := by omega
      go_enter Try.func21, Try.ntmps21
      go_wp2
      go_ret
      exact ⟨rfl, rfl⟩
  · have hd' : (den == 256) = false := beq_eq_false_iff_ne.2 hd
    rw [decide_eq_false hd]
    go_enter Try.func21, Try.ntmps21
    go_wp2
    go_ret
    exact ⟨rfl, rfl⟩
set_option maxRecDepth 100000 in
set_option maxHeartbeats 2000000 in
theorem ck_tick (w : World) (p : Nat) (F : Nat → Prop) (c : Ck.St) (n : Int) (h : ClockAt w p F c) : Ob.Turns Try.prog ClockAt 15 #[Ob.ptr p, .int .i64 n] w p F (Ck.tick c n) (.tuple #[]) := by
  obtain ⟨rfl, hr, ok⟩ := h
  obtain ⟨n0, hn0⟩ : ∃ n0 : Int, max n 0 = n0 := ⟨_, rfl⟩
  obtain ⟨K, hK⟩ : ∃ K : Nat, Ck.ticks n = K := ⟨_, rfl⟩
  have hm0 : min n0 8 = (K : Int) := by rw [← hK]; unfold Ck.ticks; omega
  have k8 : K ≤ 8 := by rw [← hK]; exact Ck.ticks_le n
  have HO : Hid (Ck.Ok (Ck.tick c n)) := Ck.ok_tick ok n
  have HE : Hid (Ck.tick c n = { c with t := (c.t + (c.part + 256 * K) / c.num) % 65536, part := (c.part + 256 * K) % c.num }) := Ck.tick_of n K hK
  obtain ⟨o1, o2, o3, o4, o5, o6⟩ := ok
  unfold Ob.Turns
  rw [HE.out] at HO ⊢
  clear HE hK
  obtain ⟨t, part, num, unit⟩ := c
  dsimp only at *
  have HM : Hid (KRow w p (kcs unit num part t)) := hr
  have e1 : IntKind.u16.wrap (K : Int) = (K : Int) := u16w (by omega) (by omega)
  have e2 : IntKind.u16.wrap ((K : Int) * 256) = (K : Int) * 256 := u16w (by omega) (by omega)
  obtain ⟨N, hN⟩ : ∃ N : Nat, part + 256 * K = N := ⟨_, rfl⟩
  have e3 : IntKind.u16.wrap ((part : Int) + (K : Int) * 256) = (N : Int) := by rw [IntKind.wrap_u16]; omega
  have nl : N ≤ 30000 := by omega
  have nm : num ≤ 18432 := by omega
  have nm0 : 0 < num := by omega
  rw [hN] at HO ⊢
  have O6 : Hid (t < 65536) := o6
  clear hN o6 hr
  go_enter Try.func15, Try.ntmps15
  go_wp2_with fail
  refine Lw.region_tail 14 (by kernel_rfl) (by kernel_rfl) ?_
  intro w1 hw1
  have HM1 : Hid (KRow w1 p (kcs unit num part t)) := by subst hw1; exact HM.out
  have HK1 : Hid (Kept (fun j => j = p) w w1) := by subst hw1; exact Kept.of_below (Below.refl _ _).drew
  clear hw1 HM
  have c2 : w1.cell? ⟨p, 2, none⟩ = some (.int .u16 (part : Int)) := HM1.out.c 2 _ rfl
  have f2 := HM1.out.f 2
  simp only [List.take_succ_cons, List.take_zero, List.drop_succ_cons, List.drop_zero]
  repeat (first | still_step)
  refine wpStill_nil ?_
  have HK : Hid (Kept (fun j => j = p) w (w1.setCell ⟨p, 2, none⟩ (.int .u16 (N : Int)))) := HK1.out.trans (G := fun j => j = p) (Kept.set _ _ _ rfl) (fun g h => Or.inl h)
  have HM2 : Hid (KRow (w1.setCell ⟨p, 2, none⟩ (.int .u16 (N : Int))) p (kcs unit num N t)) := HM1.out.set 2 _
  clear HM1 HK1
  go_wp2_with fail
  go_loopw [] (fun wr => ∃ j : Nat, j * num ≤ N ∧ Hid (KRow wr p (kcs unit num ((N - j * num : Nat) : Int) (((t + j) % 65536 : Nat) : Int))) ∧ Hid (Kept (fun j => j = p) w wr)) (fun wr => (match wr.cell? ⟨p, 2, none⟩ with | some v => (intOf v).toNat | none => 0))
  case atStart =>
    refine ⟨0, by simp, ?_, HK⟩
    have h := HM2.out
    show KRow _ _ _
    rw [Nat.add_zero, Nat.mod_eq_of_lt O6.out, Nat.zero_mul, Nat.sub_zero]
    exact h
  case round =>
    clear HM2 HK c2 f2
    obtain ⟨j, hj, HM, HK⟩ := hrel
    obtain ⟨P, hP⟩ : ∃ P, N - j * num = P := ⟨_, rfl⟩
    obtain ⟨T, hT⟩ : ∃ T, (t + j) % 65536 = T := ⟨_, rfl⟩
    rw [hP, hT] at HM
    have tl : Hid (T < 65536) := by show T < 65536; omega
    have pl : P ≤ 30000 := by omega
    have c1 : wr.cell? ⟨p, 1, none⟩ = some (.int .u16 (num : Int)) := HM.out.c 1 _ rfl
    have c2 : wr.cell? ⟨p, 2, none⟩ = some (.int .u16 (P : Int)) := HM.out.c 2 _ rfl
    have CW : Hid (wr.cell? ⟨p, 2, none⟩ = some (.int .u16 (P : Int))) := c2
    have HC : Hid (∀ w', Below wr.heap.size wr w' → w'.cell? ⟨p, 2, none⟩ = some (.int .u16 (P : Int)) ∧ w'.cell? ⟨p, 1, none⟩ = some (.int .u16 (num : Int))) := fun w' hb => ⟨(HM.out.on hb).c 2 _ rfl, (HM.out.on hb).c 1 _ rfl⟩
    by_cases hle : num ≤ P
    · obtain ⟨V, hV⟩ : ∃ V, (t + (j + 1)) % 65536 = V := ⟨_, rfl⟩
      have e1 : IntKind.u16.wrap ((T : Int) + 1) = (V : Int) := by rw [IntKind.wrap_u16]; omega
      have hj2 : (j + 1) * num ≤ N := by rw [Nat.succ_mul]; omega
      have hP2 : N - (j + 1) * num = P - num := by rw [Nat.succ_mul]; omega
      obtain ⟨R, hR⟩ : ∃ R, P - num = R := ⟨_, rfl⟩
      have e2 : IntKind.u16.wrap ((P : Int) - (num : Int)) = (R : Int) := by rw [IntKind.wrap_u16]; omega
      have HV : Hid ((t + (j + 1)) % 65536 = V) := hV
      have HR : Hid (N - (j + 1) * num = R) := hP2.trans hR
      have HL : Hid (R < P) := by show R < P; omega
      clear hP hT hV hR hP2
      go_wp2_with fail
      refine Lw.wp_region_quiet_below (by kernel_rfl) (by kernel_rfl) ?_
      repeat (first
        | go_big_quiet_skip
        | (go_big_quiet_want; go_big_quiet_op; go_big_quiet_on)
        | (go_big_quiet_want; go_big_quiet_op; apply Exists.intro; refine ⟨fun _ hb' => ?_, ?_⟩; (first
          | exact Lw.val_rfl _
          | (simp [go_sem, (HC.out _ hb').1]; rfl)
          | (simp [go_sem, (HC.out _ hb').2]; rfl)); go_big_quiet_on))
      refine wpQuiet_nil ?_
      intro w2 hb2
      have HM2 : Hid (KRow w2 p (kcs unit num (P : Int) (T : Int))) := HM.out.on hb2
      have HK2 : Hid (Kept (fun j => j = p) w w2) := HK.out.trans (G := fun _ => False) (Kept.of_below hb2) (fun g h => h.elim)
      clear hb2 HC HM HK c1 c2
      go_wp2_with fail
      refine Lw.region_tail 14 (by kernel_rfl) (by kernel_rfl) ?_
      intro w3 hw3
      have HM3 : Hid (KRow w3 p (kcs unit num (P : Int) (T : Int))) := by subst hw3; exact HM2.out
      have HK3 : Hid (Kept (fun j => j = p) w w3) := by subst hw3; exact HK2.out.trans (G := fun _ => False) (Kept.of_below (Below.refl _ _).drew) (fun g h => h.elim)
      clear hw3 HM2 HK2
      have c1 : w3.cell? ⟨p, 1, none⟩ = some (.int .u16 (num : Int)) := HM3.out.c 1 _ rfl
      have c2 : w3.cell? ⟨p, 2, none⟩ = some (.int .u16 (P : Int)) := HM3.out.c 2 _ rfl
      have f2 := HM3.out.f 2
      simp only [List.take_succ_cons, List.take_zero, List.drop_succ_cons, List.drop_zero]
      repeat (first | still_step)
      refine wpStill_nil ?_
      have HM4 : Hid (KRow (w3.setCell ⟨p, 2, none⟩ (.int .u16 (R : Int))) p (kcs unit num (R : Int) (T : Int))) := HM3.out.set 2 _
      have HK4 : Hid (Kept (fun j => j = p) w (w3.setCell ⟨p, 2, none⟩ (.int .u16 (R : Int)))) := HK3.out.trans (G := fun j => j = p) (Kept.set _ _ _ rfl) (fun g h => Or.inl h)
      clear HM3 HK3
      go_wp2_with fail
      refine Lw.region_tail 9 (by kernel_rfl) (by kernel_rfl) ?_
      intro w5 hw5
      have HM5 : Hid (KRow w5 p (kcs unit num (R : Int) (T : Int))) := by subst hw5; exact HM4.out
      have HK5 : Hid (Kept (fun j => j = p) w w5) := by subst hw5; exact HK4.out.trans (G := fun _ => False) (Kept.of_below (Below.refl _ _).drew) (fun g h => h.elim)
      clear hw5 HM4 HK4 c1 c2 f2
      have c3 : w5.cell? ⟨p, 3, none⟩ = some (.int .u16 (T : Int)) := HM5.out.c 3 _ rfl
      have f3 := HM5.out.f 3
      simp only [List.take_succ_cons, List.take_zero, List.drop_succ_cons, List.drop_zero]
      repeat (first | still_step)
      refine wpStill_nil ?_
      go_wp2
      have hr : KRow (w5.setCell ⟨p, 3, none⟩ (.int .u16 (V : Int))) p (kcs unit num (R : Int) (V : Int)) := HM5.out.set 3 _
      have hc : (w5.setCell ⟨p, 3, none⟩ (.int .u16 (V : Int))).cell? ⟨p, 2, none⟩ = some (.int .u16 (R : Int)) := hr.c 2 _ rfl
      refine ⟨⟨j + 1, hj2, ?_, ?_⟩, ?_⟩
      · show KRow _ _ _
        rw [HV.out, HR.out]
        exact hr
      · show Kept _ _ _
        exact HK5.out.trans (G := fun j => j = p) (Kept.set _ _ _ rfl) (fun g h => Or.inl h)
      · rw [hc, CW.out]
        have := HL.out
        simp [intOf]
        omega
    · have hjd : j = N / num := by
        have h1 : N / num < j + 1 := Nat.div_lt_of_lt_mul (by rw [Nat.mul_comm, Nat.succ_mul]; omega)
        have h2 : j ≤ N / num := (Nat.le_div_iff_mul_le (by omega)).2 hj
        omega
      have hmd : N % num = P := by
        have h1 := Nat.div_add_mod N num
        rw [← hjd, Nat.mul_comm] at h1
        omega
      have HE : Hid (KRow wr p (kcs unit num ((N % num : Nat) : Int) (((t + N / num) % 65536 : Nat) : Int))) := by rw [hmd, ← hjd, hT]; exact HM
      clear hP hT hjd hmd
      go_wp2_with fail
      refine Lw.wp_region_quiet_below (by kernel_rfl) (by kernel_rfl) ?_
      repeat (first
        | go_big_quiet_skip
        | (go_big_quiet_want; go_big_quiet_op; go_big_quiet_on)
        | (go_big_quiet_want; go_big_quiet_op; apply Exists.intro; refine ⟨fun _ hb' => ?_, ?_⟩; (first
          | exact Lw.val_rfl _
          | (simp [go_sem, (HC.out _ hb').1]; rfl)
          | (simp [go_sem, (HC.out _ hb').2]; rfl)); go_big_quiet_on))
      refine wpQuiet_nil ?_
      intro w2 hb2
      have HK2 : Hid (Kept (fun j => j = p) w w2) := HK.out.trans (G := fun _ => False) (Kept.of_below hb2) (fun g h => h.elim)
      replace HE : Hid (KRow w2 p (kcs unit num ((N % num : Nat) : Int) (((t + N / num) % 65536 : Nat) : Int))) := HE.out.on hb2
      clear hb2 HC HM HK c1 c2
      go_wp2
      go_end0
      exact ⟨rfl, _, ⟨rfl, HE.out, HO.out⟩, fun g hg => Or.inl hg, HK2.out⟩
set_option maxRecDepth 100000 in
set_option maxHeartbeats 2000000 in
theorem ck_set (w : World) (p : Nat) (F : Nat → Prop) (c : Ck.St) (num den : Int) (h : ClockAt w p F c) : Ob.Turns Try.prog ClockAt 12 #[Ob.ptr p, .int .i64 num, .int .i64 den] w p F (Ck.setRate c num den) (.bool (Ck.may c num den)) := by
  have HN := ck_near w p F c num den h
  obtain ⟨rfl, hr, ok⟩ := h
  have HO : Hid (Ck.Ok (Ck.setRate c num den)) := Ck.ok_set ok num den
  obtain ⟨o1, o2, o3, o4, o5, o6⟩ := ok
  obtain ⟨t, part, nu, unit⟩ := c
  dsimp only at *
  have HM : Hid (KRow w p (kcs unit nu part t)) := hr
  unfold Ob.Turns
  cases hm : Ck.may ⟨t, part, nu, unit⟩ num den
  · have hs : Ck.setRate ⟨t, part, nu, unit⟩ num den = ⟨t, part, nu, unit⟩ := by unfold Ck.setRate; rw [hm]; rfl
    rw [hs] at HO ⊢
    rw [hm] at HN
    clear hm hs hr
    go_enter Try.func12, Try.ntmps12
    go_wp2_with (go_at_call 21; refine HN.mono ?_; rintro e w' ⟨rfl, hw⟩; rw [hw]; clear hw)
    go_ret
    exact ⟨rfl, _, ⟨rfl, HM.out, HO.out⟩, fun g hg => Or.inl hg, Kept.refl _ _⟩
  · have hm' : den = 256 ∧ 224 * (unit : Int) ≤ num ∧ num ≤ 288 * (unit : Int) := of_decide_eq_true hm
    obtain ⟨rfl, h1, h2⟩ := hm'
    obtain ⟨M, rfl⟩ := Int.eq_ofNat_of_zero_le (show 0 ≤ num by omega)
    have hs : Ck.setRate ⟨t, part, nu, unit⟩ (M : Int) 256 = ⟨t, min part (M - 1), M, unit⟩ := by unfold Ck.setRate; rw [hm]; rfl
    rw [hs] at HO ⊢
    rw [hm] at HN
    have f1 := hr.f 1
    have c1 : w.cell? ⟨p, 1, none⟩ = some (.int .u16 (nu : Int)) := hr.c 1 _ rfl
    have e1 : IntKind.u16.wrap (M : Int) = (M : Int) := u16w (by omega) (by omega)
    have e2 : IntKind.u16.wrap ((M : Int) - 1) = (M : Int) - 1 := u16w (by omega) (by omega)
    obtain ⟨X, hX⟩ : ∃ X, min part (M - 1) = X := ⟨_, rfl⟩
    have hX2 : min (part : Int) ((M : Int) - 1) = (X : Int) := by omega
    rw [hX] at HO ⊢
    clear hm hs hX hr o6
    go_enter Try.func12, Try.ntmps12
    go_wp2_with (go_at_call 21; refine HN.mono ?_; rintro e w' ⟨rfl, hw⟩; rw [hw]; clear hw)
    refine Lw.region_tail 16 (by kernel_rfl) (by kernel_rfl) ?_
    intro w1 hw1
    have HM1 : Hid (KRow w1 p (kcs unit (M : Int) part t)) := by subst hw1; exact HM.out.set 1 _
    have HK1 : Hid (Kept (fun j => j = p) w w1) := by subst hw1; exact (Kept.set _ _ _ rfl : Kept (fun j => j = p) _ _).trans (G := fun _ => False) (Kept.of_below (Below.refl _ _).drew) (fun g h => h.elim)
    clear hw1 HM HN f1 c1
    have c1 : w1.cell? ⟨p, 1, none⟩ = some (.int .u16 (M : Int)) := HM1.out.c 1 _ rfl
    have c2 : w1.cell? ⟨p, 2, none⟩ = some (.int .u16 (part : Int)) := HM1.out.c 2 _ rfl
    have f2 := HM1.out.f 2
    simp only [List.take_succ_cons, List.take_zero, List.drop_succ_cons, List.drop_zero]
    repeat (first | still_step)
    refine wpStill_nil ?_
    go_wp2
    go_ret
    exact ⟨rfl, _, ⟨rfl, HM1.out.set 2 _, HO.out⟩, fun g hg => Or.inl hg, HK1.out.trans (G := fun j => j = p) (Kept.set _ _ _ rfl) (fun g h => Or.inl h)⟩
theorem kinfo1 : (Try.prog.info? 35).map (·.size) = some 1 := by kernel_rfl
set_option maxRecDepth 100000 in
set_option maxHeartbeats 2000000 in
theorem ck_copy (w : World) (p : Nat) (F : Nat → Prop) (c : Ck.St) (h : ClockAt w p F c) : Ob.Makes Try.prog ClockAt 14 #[Ob.ptr p] w c := by
  obtain ⟨rfl, hr, ok⟩ := h
  have HO : Hid (Ck.Ok c) := ok
  have HC : Hid (∀ (w1 : World), Below w.heap.size w w1 → ∀ j v, (kcs c.unit c.num c.part c.t).toList[j]? = some v → w1.cell? (Addr.add ⟨p, 0, none⟩ j) = some v) := by
    intro w1 hb j v hv
    have h1 := (hr.on hb).c j v (by rw [← hv]; simp)
    have hadd : (⟨p, 0, none⟩ : Addr).add j = ⟨p, j, none⟩ := by unfold Addr.add; split <;> simp_all
    rw [hadd]
    exact h1
  have H1 : Hid (∀ v ∈ (kcs c.unit c.num c.part c.t).toList, v.oneCell' = true) := by
    intro v hv
    simp [kcs] at hv
    rcases hv with rfl | rfl | rfl | rfl <;> rfl
  have HE : Hid (∀ g, (kcs c.unit c.num c.part c.t) = (splice [Value.int .u16 0, Value.int .u16 0, Value.int .u16 0, Value.int .u16 0] 0 (kcs c.unit c.num c.part c.t).toList).toArray ∨ g = 0) := fun g => Or.inl (by simp [splice, kcs])
  have HN : Hid ((kcs c.unit c.num c.part c.t).toList.length = 4) := rfl
  generalize hcs : kcs c.unit c.num c.part c.t = cs at *
  clear hr ok
  unfold Ob.Makes
  go_enter Try.func14, Try.ntmps14
  go_wp2_with fail
  refine Lw.region_tail 8 (by kernel_rfl) (by kernel_rfl) ?_
  intro w1 hw1
  have HW : Hid (w1.heap[w.heap.size]? = some (.cells [Value.int .u16 0, Value.int .u16 0, Value.int .u16 0, Value.int .u16 0].toArray 50 (0, 0))) := by rw [hw1]; exact heap_alloc_new _ _
  have HB : Hid (Below w.heap.size w w1) := by rw [hw1]; exact ((Below.refl _ _).alloc (Nat.le_refl _) _).drew
  clear hw1
  simp only [List.take_succ_cons, List.take_zero, List.drop_succ_cons, List.drop_zero]
  repeat (first | still_step)
  refine wpStill_nil ?_
  go_wp2_with (refine wpList_copy_splice (P := Try.prog) rfl (.tmp 9) (.tmp 13) 51 51 rfl 35 Try.underlying51 kinfo1 (some ⟨w.heap.size, 0, none⟩) (some ⟨p, 0, none⟩) 4 4 4 4 rfl rfl w.heap.size 0 [Value.int .u16 0, Value.int .u16 0, Value.int .u16 0, Value.int .u16 0] 50 HW.out cs.toList HN.out (fun _ => ⟨rfl, _, rfl, HC.out _ HB.out⟩) (by rw [HN.out]; exact Nat.le_refl _) H1.out w.heap.size w HB.out (Nat.le_refl _) ?_; intro w2 HG2 hb2)
  go_ret
  refine ⟨_, _, rfl, ⟨rfl, ?_, HO.out⟩, fun g hg => by omega, hb2⟩
  show w2.heap[w.heap.size]? = _
  rw [hcs, HG2.out]
  exact congrArg (fun x => some (Obj.cells x 50 (0, 0))) ((HE.out 1).elim Eq.symm (fun h => absurd h (by decide)))
theorem clockSpec : ClockSpec ClockAt where
  is := ckIs
  ok := fun h => h.2.2
  new := fun w u _ => ck_new w u
  tick := fun w p F c n _ h => ck_tick w p F c n h
  time := ck_time
  part := ck_part
  rate := ck_rate
  setRate := fun w p F c num den _ _ h => ck_set w p F c num den h
  copy := ck_copy
  since := ck_since
end Go.Proofs.Ytjjahfmjiinpcaa
