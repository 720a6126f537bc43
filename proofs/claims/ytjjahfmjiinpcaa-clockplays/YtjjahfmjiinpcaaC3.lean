/- The document's own clock, over its text. -/
import Derived.Test.YtjjahfmjiinpcaaC1
import Derived.Test.YtjjahfmjiinpcaaU2
import Derived.OpenShut
namespace Go.Proofs.Ytjjahfmjiinpcaa
open Go.RowKit Go.WideShapes
set_option linter.unusedVariables false
def rcs (t part num unit : Int) : Array Value := #[.int .u16 t, .int .i64 part, .int .i64 num, .int .i64 unit]
def RRow (w : World) (p : Nat) (cs : Array Value) : Prop := w.heap[p]? = some (.cells cs 38 (0, 0))
theorem RRow.lt {w : World} {p : Nat} {cs : Array Value} (h : RRow w p cs) : p < w.heap.size := (Array.getElem?_eq_some_iff.1 h).1
theorem RRow.c {w : World} {p : Nat} {cs : Array Value} (h : RRow w p cs) (k : Nat) (v : Value) (hv : cs[k]? = some v) : w.cell? ⟨p, k, none⟩ = some v := by rw [cell_of_row _ _ _ _ _ _ h]; exact hv
theorem RRow.on {w w' : World} {p : Nat} {cs : Array Value} (h : RRow w p cs) (hb : Below w.heap.size w w') : RRow w' p cs := (hb.block p h.lt).trans h
theorem RRow.f {w : World} {p : Nat} {cs : Array Value} (h : RRow w p cs) (k : Nat) : w.frozen? ⟨p, k, none⟩ = false := frozen_of_row _ _ k _ _ h
theorem RRow.set {w : World} {p : Nat} {cs : Array Value} (h : RRow w p cs) (k : Nat) (v : Value) : RRow (w.setCell ⟨p, k, none⟩ v) p (cs.setIfInBounds k v) := heap_setCell_same _ _ _ _ _ _ h
def RcAt : Ob.A Ck.St := fun w p F c => F = (fun j => j = p) ∧ RRow w p (rcs c.t c.part c.num c.unit) ∧ Ck.Ok c
theorem rcIs : Ob.Is RcAt where
  on := by
    rintro w w' p F c ⟨rfl, h, ok⟩ hk
    exact ⟨rfl, (hk p rfl).trans h, ok⟩
  lt := by
    rintro w p F c ⟨rfl, h, ok⟩ g rfl
    exact h.lt
set_option maxRecDepth 100000 in
set_option maxHeartbeats 1000000 in
theorem rc_new (w : World) (u : Int) : Ob.Makes Try.prog RcAt 11 #[.int .i64 u] w (Ck.new u) := by
  obtain ⟨n0, hn0⟩ : ∃ n0 : Int, min u 64 = n0 := ⟨_, rfl⟩
  obtain ⟨m0, hm0⟩ : ∃ m0 : Int, max 1 n0 = m0 := ⟨_, rfl⟩
  have hu : m0 = (Ck.hold u : Int) := by unfold Ck.hold; omega
  have h1 := Ck.hold_in u
  have HO : Hid (Ck.Ok (Ck.new u)) := Ck.ok_new u
  have HE : Hid (Ck.new u = ⟨0, 0, 256 * Ck.hold u, Ck.hold u⟩) := rfl
  unfold Ob.Makes
  rw [HE.out] at HO ⊢
  generalize Ck.hold u = U at *
  subst hu
  clear HE
  go_enter Try.func11, Try.ntmps11
  go_wp2
  go_ret
  exact ⟨_, _, rfl, ⟨rfl, heap_alloc_new _ _, HO.out⟩, fun g hg => by omega, (Below.refl _ _).alloc (Nat.le_refl _) _⟩
set_option maxRecDepth 100000 in
set_option maxHeartbeats 2000000 in
theorem rc_tick (w : World) (p : Nat) (F : Nat → Prop) (c : Ck.St) (n : Int) (h : RcAt w p F c) : Ob.Turns Try.prog RcAt 16 #[Ob.ptr p, .int .i64 n] w p F (Ck.tick c n) (.tuple #[]) := by
  obtain ⟨rfl, hr, ok⟩ := h
  obtain ⟨n0, hn0⟩ : ∃ n0 : Int, min n 8 = n0 := ⟨_, rfl⟩
  obtain ⟨K, hK⟩ : ∃ K : Nat, Ck.ticks n = K := ⟨_, rfl⟩
  have hm0 : max 0 n0 = (K : Int) := by rw [← hK]; unfold Ck.ticks; omega
  have k8 : K ≤ 8 := by rw [← hK]; exact Ck.ticks_le n
  have HO : Hid (Ck.Ok (Ck.tick c n)) := Ck.ok_tick ok n
  have HE : Hid (Ck.tick c n = { c with t := (c.t + (c.part + 256 * K) / c.num) % 65536, part := (c.part + 256 * K) % c.num }) := Ck.tick_of n K hK
  obtain ⟨o1, o2, o3, o4, o5, o6⟩ := ok
  unfold Ob.Turns
  rw [HE.out] at HO ⊢
  clear HE hK
  obtain ⟨t, part, num, unit⟩ := c
  dsimp only at *
  have HM : Hid (RRow w p (rcs t part num unit)) := hr
  have c0 : w.cell? ⟨p, 0, none⟩ = some (.int .u16 (t : Int)) := hr.c 0 _ rfl
  have c1 : w.cell? ⟨p, 1, none⟩ = some (.int .i64 (part : Int)) := hr.c 1 _ rfl
  have c2 : w.cell? ⟨p, 2, none⟩ = some (.int .i64 (num : Int)) := hr.c 2 _ rfl
  have f0 := hr.f 0
  have f1 := hr.f 1
  clear hr
  have HK : Hid (Kept (fun j => j = p) w (w.setCell ⟨p, 1, none⟩ (.int .i64 ((part : Int) + 256 * (K : Int))))) := Kept.set _ _ _ rfl
  have HM2 : Hid (RRow (w.setCell ⟨p, 1, none⟩ (.int .i64 ((part : Int) + 256 * (K : Int)))) p (rcs t ((part : Int) + 256 * (K : Int)) num unit)) := HM.out.set 1 _
  obtain ⟨N, hN⟩ : ∃ N : Nat, part + 256 * K = N := ⟨_, rfl⟩
  have hNi : (part : Int) + 256 * (K : Int) = (N : Int) := by omega
  have nl : N ≤ 30000 := by omega
  rw [hN] at HO ⊢
  rw [hNi] at HM2 HK
  clear hN
  go_enter Try.func16, Try.ntmps16
  go_wp2_with fail
  go_loopw [] (fun wr => ∃ j : Nat, j * num ≤ N ∧ Hid (RRow wr p (rcs (((t + j) % 65536 : Nat) : Int) ((N - j * num : Nat) : Int) num unit)) ∧ Hid (Kept (fun j => j = p) w wr)) (fun wr => (match wr.cell? ⟨p, 1, none⟩ with | some v => (intOf v).toNat | none => 0))
  case atStart =>
    refine ⟨0, by simp, ?_, HK⟩
    have h := HM2.out
    show RRow _ _ _
    rw [Nat.add_zero, Nat.mod_eq_of_lt o6, Nat.zero_mul, Nat.sub_zero]
    exact h
  case round =>
    clear HM HM2 HK c0 c1 c2 f0 f1
    obtain ⟨j, hj, HM, HK⟩ := hrel
    obtain ⟨P, hP⟩ : ∃ P, N - j * num = P := ⟨_, rfl⟩
    obtain ⟨T, hT⟩ : ∃ T, (t + j) % 65536 = T := ⟨_, rfl⟩
    rw [hP, hT] at HM
    have tl : T < 65536 := by omega
    have pl : P ≤ 30000 := by omega
    have c0 : wr.cell? ⟨p, 0, none⟩ = some (.int .u16 (T : Int)) := HM.out.c 0 _ rfl
    have c1 : wr.cell? ⟨p, 1, none⟩ = some (.int .i64 (P : Int)) := HM.out.c 1 _ rfl
    have c2 : wr.cell? ⟨p, 2, none⟩ = some (.int .i64 (num : Int)) := HM.out.c 2 _ rfl
    have f0 := HM.out.f 0
    have f1 := HM.out.f 1
    have CW : Hid (wr.cell? ⟨p, 1, none⟩ = some (.int .i64 (P : Int))) := c1
    by_cases hle : num ≤ P
    · obtain ⟨V, hV⟩ : ∃ V, (t + (j + 1)) % 65536 = V := ⟨_, rfl⟩
      have e1 : IntKind.u16.wrap ((T : Int) + 1) = (V : Int) := by rw [IntKind.wrap_u16]; omega
      have hj2 : (j + 1) * num ≤ N := by rw [Nat.succ_mul]; omega
      have hP2 : N - (j + 1) * num = P - num := by rw [Nat.succ_mul]; omega
      have HV : Hid ((t + (j + 1)) % 65536 = V) := hV
      have tli : (T : Int) < 65536 := by omega
      clear hP hT hV tl
      have HC : Hid (∀ w', Below wr.heap.size wr w' → w'.cell? ⟨p, 1, none⟩ = some (.int .i64 (P : Int)) ∧ w'.cell? ⟨p, 2, none⟩ = some (.int .i64 (num : Int))) := fun w' hb => ⟨(HM.out.on hb).c 1 _ rfl, (HM.out.on hb).c 2 _ rfl⟩
      go_wp2_with fail
      refine Lw.wp_region_quiet_below (by kernel_rfl) (by kernel_rfl) ?_
      repeat (first
        | go_big_quiet_skip
        | (go_big_quiet_want; go_big_quiet_op; go_big_quiet_on)
        | (go_big_quiet_want; go_big_quiet_op; apply Exists.intro; refine ⟨fun _ hb' => ?_, ?_⟩; (first
          | exact Lw.val_rfl _
          | (simp [go_sem, (HC.out _ hb').1]; rfl)
          | (simp [go_sem, (HC.out _ hb').2]; rfl)); go_big_quiet_on))
      refine wpQuiet_nil ?_
      intro w2 hb2
      have HM2 : Hid (RRow w2 p (rcs (T : Int) (P : Int) num unit)) := HM.out.on hb2
      have HK2 : Hid (Kept (fun j => j = p) w w2) := HK.out.trans (G := fun _ => False) (Kept.of_below hb2) (fun g h => h.elim)
      clear hb2 HC HM HK c0 c1 c2 f0 f1
      have c0 : w2.cell? ⟨p, 0, none⟩ = some (.int .u16 (T : Int)) := HM2.out.c 0 _ rfl
      have c1 : w2.cell? ⟨p, 1, none⟩ = some (.int .i64 (P : Int)) := HM2.out.c 1 _ rfl
      have c2 : w2.cell? ⟨p, 2, none⟩ = some (.int .i64 (num : Int)) := HM2.out.c 2 _ rfl
      have f0 := HM2.out.f 0
      have f1 := HM2.out.f 1
      go_wp2_with fail
      refine Lw.region_tail 12 (by kernel_rfl) (by kernel_rfl) ?_
      intro w3 hw3
      have HM3 : Hid (RRow w3 p (rcs (T : Int) (P : Int) num unit)) := by subst hw3; exact HM2.out
      have HK3 : Hid (Kept (fun j => j = p) w w3) := by subst hw3; exact HK2.out.trans (G := fun _ => False) (Kept.of_below (Below.refl _ _).drew) (fun g h => h.elim)
      clear hw3 HM2 HK2 c0 c1 c2 f0 f1
      have c0 : w3.cell? ⟨p, 0, none⟩ = some (.int .u16 (T : Int)) := HM3.out.c 0 _ rfl
      have c1 : w3.cell? ⟨p, 1, none⟩ = some (.int .i64 (P : Int)) := HM3.out.c 1 _ rfl
      have c2 : w3.cell? ⟨p, 2, none⟩ = some (.int .i64 (num : Int)) := HM3.out.c 2 _ rfl
      have f0 := HM3.out.f 0
      have f1 := HM3.out.f 1
      simp only [List.take_succ_cons, List.take_zero, List.drop_succ_cons, List.drop_zero]
      repeat (first | still_step)
      refine wpStill_nil ?_
      go_wp2
      have hr : RRow ((w3.setCell ⟨p, 1, none⟩ (.int .i64 ((P : Int) - (num : Int)))).setCell ⟨p, 0, none⟩ (.int .u16 (V : Int))) p (rcs (V : Int) ((P : Int) - (num : Int)) num unit) := (HM3.out.set 1 _).set 0 _
      have hc : ((w3.setCell ⟨p, 1, none⟩ (.int .i64 ((P : Int) - (num : Int)))).setCell ⟨p, 0, none⟩ (.int .u16 (V : Int))).cell? ⟨p, 1, none⟩ = some (.int .i64 ((P : Int) - (num : Int))) := hr.c 1 _ rfl
      refine ⟨⟨j + 1, hj2, ?_, ?_⟩, ?_⟩
      · show RRow _ _ _
        rw [HV.out, hP2, show ((P - num : Nat) : Int) = (P : Int) - (num : Int) by omega]
        exact hr
      · show Kept _ _ _
        exact (HK3.out.trans (G := fun j => j = p) (Kept.set _ _ _ rfl) (fun g h => Or.inl h)).trans (G := fun j => j = p) (Kept.set _ _ _ rfl) (fun g h => Or.inl h)
      · rw [hc, CW.out]
        simp [intOf]
        omega
    · have hjd : j = N / num := by
        have h1 : N / num < j + 1 := Nat.div_lt_of_lt_mul (by rw [Nat.mul_comm, Nat.succ_mul]; omega)
        have h2 : j ≤ N / num := (Nat.le_div_iff_mul_le (by omega)).2 hj
        omega
      have hmd : N % num = P := by
        have h1 := Nat.div_add_mod N num
        rw [← hjd, Nat.mul_comm] at h1
        omega
      have HE : Hid (RRow wr p (rcs (((t + N / num) % 65536 : Nat) : Int) ((N % num : Nat) : Int) num unit)) := by rw [hmd, ← hjd, hT]; exact HM
      clear hP hT tl hjd hmd
      have HC : Hid (∀ w', Below wr.heap.size wr w' → w'.cell? ⟨p, 1, none⟩ = some (.int .i64 (P : Int)) ∧ w'.cell? ⟨p, 2, none⟩ = some (.int .i64 (num : Int))) := fun w' hb => ⟨(HM.out.on hb).c 1 _ rfl, (HM.out.on hb).c 2 _ rfl⟩
      go_wp2_with fail
      refine Lw.wp_region_quiet_below (by kernel_rfl) (by kernel_rfl) ?_
      repeat (first
        | go_big_quiet_skip
        | (go_big_quiet_want; go_big_quiet_op; go_big_quiet_on)
        | (go_big_quiet_want; go_big_quiet_op; apply Exists.intro; refine ⟨fun _ hb' => ?_, ?_⟩; (first
          | exact Lw.val_rfl _
          | (simp [go_sem, (HC.out _ hb').1]; rfl)
          | (simp [go_sem, (HC.out _ hb').2]; rfl)); go_big_quiet_on))
      refine wpQuiet_nil ?_
      intro w2 hb2
      have HM2 : Hid (RRow w2 p (rcs (T : Int) (P : Int) num unit)) := HM.out.on hb2
      have HK2 : Hid (Kept (fun j => j = p) w w2) := HK.out.trans (G := fun _ => False) (Kept.of_below hb2) (fun g h => h.elim)
      replace HE : Hid (RRow w2 p (rcs (((t + N / num) % 65536 : Nat) : Int) ((N % num : Nat) : Int) num unit)) := HE.out.on hb2
      clear hb2 HC HM HK c0 c1 c2 f0 f1
      go_wp2
      go_end0
      exact ⟨rfl, _, ⟨rfl, HE.out, HO.out⟩, fun g hg => Or.inl hg, HK2.out⟩
set_option maxRecDepth 100000 in
set_option maxHeartbeats 2000000 in
theorem rc_set (w : World) (p : Nat) (F : Nat → Prop) (c : Ck.St) (num den : Int) (hn : (Lit.int .i64 num).wf = true) (h : RcAt w p F c) : Ob.Turns Try.prog RcAt 13 #[Ob.ptr p, .int .i64 num, .int .i64 den] w p F (Ck.setRate c num den) (.bool (Ck.may c num den)) := by
  obtain ⟨rfl, hr, ok⟩ := h
  have HO : Hid (Ck.Ok (Ck.setRate c num den)) := Ck.ok_set ok num den
  obtain ⟨o1, o2, o3, o4, o5, o6⟩ := ok
  obtain ⟨t, part, nu, unit⟩ := c
  dsimp only at *
  have HM : Hid (RRow w p (rcs t part nu unit)) := hr
  have c1 : w.cell? ⟨p, 1, none⟩ = some (.int .i64 (part : Int)) := hr.c 1 _ rfl
  have c2 : w.cell? ⟨p, 2, none⟩ = some (.int .i64 (nu : Int)) := hr.c 2 _ rfl
  have c3 : w.cell? ⟨p, 3, none⟩ = some (.int .i64 (unit : Int)) := hr.c 3 _ rfl
  have f1 := hr.f 1
  have f2 := hr.f 2
  clear hr
  have e8 : (256 * (unit : Int)).tdiv 8 = 32 * (unit : Int) := by rw [Int.tdiv_eq_ediv_of_nonneg (by omega)]; omega
  unfold Ob.Turns
  obtain ⟨n1, n2⟩ := bounds_i64 hn
  by_cases hd : den = 256
  · by_cases h1 : 224 * (unit : Int) ≤ num
    · by_cases h2 : num ≤ 288 * (unit : Int)
      · have hm : Ck.may ⟨t, part, nu, unit⟩ num den = true := decide_eq_true ⟨hd, h1, h2⟩
        obtain ⟨M, rfl⟩ := Int.eq_ofNat_of_zero_le (show 0 ≤ num by omega)
        have hs : Ck.setRate ⟨t, part, nu, unit⟩ (M : Int) den = ⟨t, min part (M - 1), M, unit⟩ := by unfold Ck.setRate; rw [hm]; rfl
        rw [hs] at HO ⊢
        rw [hm]
        subst hd
        have g1 : ((M : Int) < 256 * (unit : Int) - 32 * (unit : Int)) = False := eq_false (by omega)
        have g2 : (256 * (unit : Int) + 32 * (unit : Int) < (M : Int)) = False := eq_false (by omega)
        obtain ⟨X, hX⟩ : ∃ X, min part (M - 1) = X := ⟨_, rfl⟩
        have hX2 : min (part : Int) ((M : Int) - 1) = (X : Int) := by omega
        rw [hX] at HO ⊢
        clear hm hs hX
        go_enter Try.func13, Try.ntmps13
        go_wp2
        go_ret
        exact ⟨rfl, _, ⟨rfl, (HM.out.set 2 _).set 1 _, HO.out⟩, fun g hg => Or.inl hg, (Kept.set _ _ _ rfl : Kept (fun j => j = p) _ _).trans (G := fun j => j = p) (Kept.set _ _ _ rfl) (fun g h => Or.inl h)⟩
      · have hm : Ck.may ⟨t, part, nu, unit⟩ num den = false := decide_eq_false (fun h => h2 h.2.2)
        have hs : Ck.setRate ⟨t, part, nu, unit⟩ num den = ⟨t, part, nu, unit⟩ := by unfold Ck.setRate; rw [hm]; rfl
        rw [hs] at HO ⊢
        rw [hm]
        subst hd
        have g1 : (num < 256 * (unit : Int) - 32 * (unit : Int)) = False := eq_false (by omega)
        have g2 : (256 * (unit : Int) + 32 * (unit : Int) < num) = True := eq_true (by omega)
        clear hm hs
        go_enter Try.func13, Try.ntmps13
        go_wp2
        go_ret
        exact ⟨rfl, _, ⟨rfl, HM.out, HO.out⟩, fun g hg => Or.inl hg, Kept.refl _ _⟩
    · have hm : Ck.may ⟨t, part, nu, unit⟩ num den = false := decide_eq_false (fun h => h1 h.2.1)
      have hs : Ck.setRate ⟨t, part, nu, unit⟩ num den = ⟨t, part, nu, unit⟩ := by unfold Ck.setRate; rw [hm]; rfl
      rw [hs] at HO ⊢
      rw [hm]
      subst hd
      have g1 : (num < 256 * (unit : Int) - 32 * (unit : Int)) = True := eq_true (by omega)
      clear hm hs
      go_enter Try.func13, Try.ntmps13
      go_wp2
      go_ret
      exact ⟨rfl, _, ⟨rfl, HM.out, HO.out⟩, fun g hg => Or.inl hg, Kept.refl _ _⟩
  · have hm : Ck.may ⟨t, part, nu, unit⟩ num den = false := decide_eq_false (fun h => hd h.1)
    have hs : Ck.setRate ⟨t, part, nu, unit⟩ num den = ⟨t, part, nu, unit⟩ := by unfold Ck.setRate; rw [hm]; rfl
    rw [hs] at HO ⊢
    rw [hm]
    have hd' : (den == 256) = false := beq_eq_false_iff_ne.2 hd
    clear hm hs
    go_enter Try.func13, Try.ntmps13
    go_wp2
    go_ret
    exact ⟨rfl, _, ⟨rfl, HM.out, HO.out⟩, fun g hg => Or.inl hg, Kept.refl _ _⟩
end Go.Proofs.Ytjjahfmjiinpcaa
