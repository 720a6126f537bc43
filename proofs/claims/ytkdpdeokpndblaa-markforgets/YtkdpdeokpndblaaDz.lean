/- Package mark, over the landed code: a mark is four words of 16 bits. -/
import Derived.Test.YtkdpdeokpndblaaD1
import Derived.Test.YtkdpdeokpndblaaRg
import Derived.Test.YtkdpdeokpndblaaU2
import Derived.OpenShut
import Derived.Lib.SliceRun
namespace Go.Proofs.Ytkdpdeokpndblaa
open Go.RowKit Go.WideShapes
set_option linter.unusedVariables false
namespace Dk
def w4 (k s b c : Int) : Array Value := #[.int .u16 k, .int .u16 s, .int .u16 b, .int .u16 c]
/-- What there is: nothing, a start, a beginning. -/
def known (m : Mq.St) : Nat := match m.start, m.beg with | none, _ => 0 | some _, none => 1 | some _, some _ => 2
def at0 (m : Mq.St) : Nat := match m.start with | some s => s | none => 0
def cs (m : Mq.St) : Array Value := w4 (known m) (at0 m) (Mq.last m) (Mq.cycle m)
structure Ok (m : Mq.St) : Prop where
  ok : Mq.Ok m
  wf : m.start = none → m.beg = none
theorem u16w {x : Int} (h1 : 0 ≤ x) (h2 : x < 65536) : IntKind.u16.wrap x = x := by rw [IntKind.wrap_u16]; omega
end Dk
def MarkAt : Ob.A Mq.St := OneB 45 Dk.cs Dk.Ok
set_option maxRecDepth 100000 in
set_option maxHeartbeats 1000000 in
theorem mk_new (w : World) : Ob.Makes Try.prog MarkAt 7 #[] w Mq.no := by
  have HO : Hid (Dk.Ok Mq.no) := ⟨Mq.ok_no, fun _ => rfl⟩
  unfold Ob.Makes
  go_enter Try.func7, Try.ntmps7
  go_wp2
  go_ret
  refine ⟨_, _, rfl, ⟨rfl, ?_, HO.out⟩, fun g hg => by omega, ?_⟩
  · exact heap_alloc_new _ _
  · exact (Below.refl _ _).alloc (Nat.le_refl _) _
set_option maxRecDepth 100000 in
set_option maxHeartbeats 1000000 in
theorem mk_since (w : World) (a b : Nat) (ha : a < 65536) (hb : b < 65536) : Ob.Looks Try.prog 19 #[.int .u16 (a : Int), .int .u16 (b : Int)] w (.int .i64 (Ck.since a b : Int)) := by
  obtain ⟨D, hD⟩ : ∃ D, Ck.since a b = D := ⟨_, rfl⟩
  have e1 : IntKind.u16.wrap ((b : Int) - (a : Int)) = (D : Int) := by rw [IntKind.wrap_u16, ← hD]; unfold Ck.since; omega
  have e2 : (D : Int) ≤ 65535 := by rw [← hD]; unfold Ck.since; omega
  rw [hD]
  clear hD ha hb
  unfold Ob.Looks
  go_enter Try.func19, Try.ntmps19
  go_wp2
  go_ret
  exact ⟨rfl, Below.refl _ _⟩
set_option maxRecDepth 100000 in
set_option maxHeartbeats 1000000 in
theorem mk_cycle (w : World) (p : Nat) (F : Nat → Prop) (m : Mq.St) (h : MarkAt w p F m) : Ob.Looks Try.prog 18 #[Ob.ptr p] w (.int .i64 (Mq.cycle m : Int)) := by
  obtain ⟨rfl, hr, ok⟩ := h
  have c3 : w.cell? ⟨p, 3, none⟩ = some (.int .u16 (Mq.cycle m : Int)) := hr.c 3 _ rfl
  have b1 := Mq.ok_cycle ok.ok
  generalize Mq.cycle m = C at *
  have b2 : (C : Int) ≤ 7 := by omega
  clear hr ok b1
  unfold Ob.Looks
  go_enter Try.func18, Try.ntmps18
  go_wp2
  go_ret
  exact ⟨rfl, Below.refl _ _⟩
set_option maxRecDepth 100000 in
set_option maxHeartbeats 1000000 in
theorem mk_last (w : World) (p : Nat) (F : Nat → Prop) (m : Mq.St) (h : MarkAt w p F m) : Ob.Looks Try.prog 16 #[Ob.ptr p] w (.tuple #[.int .u16 (Mq.last m : Int), .bool (Mq.is m)]) := by
  obtain ⟨rfl, hr, ok⟩ := h
  obtain ⟨K, hK⟩ : ∃ K, Dk.known m = K := ⟨_, rfl⟩
  have HC : Hid (∀ w', Below w.heap.size w w' → w'.cell? ⟨p, 0, none⟩ = some (.int .u16 (K : Int)) ∧ w'.cell? ⟨p, 2, none⟩ = some (.int .u16 (Mq.last m : Int))) := fun w' hb => ⟨by rw [← hK]; exact (hr.on hb).c 0 _ rfl, (hr.on hb).c 2 _ rfl⟩
  have e1 : ((K : Int) == 2) = Mq.is m := by
    rw [← hK]
    have wf := ok.wf
    obtain ⟨s, b⟩ := m
    cases s with
    | none => obtain rfl : b = none := wf rfl; rfl
    | some s => cases b <;> rfl
  generalize Mq.last m = L at *
  generalize Mq.is m = I at *
  clear hr ok hK
  unfold Ob.Looks
  go_enter Try.func16, Try.ntmps16
  go_wp2_with fail
  refine Lw.wp_region_quiet_below (by kernel_rfl) (by kernel_rfl) ?_
  repeat (first
    | go_big_quiet_skip
    | (go_big_quiet_want; go_big_quiet_op; go_big_quiet_on)
    | (go_big_quiet_want; go_big_quiet_op; apply Exists.intro; refine ⟨fun _ hb' => ?_, ?_⟩; (first
      | exact Lw.val_rfl _
      | (simp [go_sem, (HC.out _ hb').1]; rfl)
      | (simp [go_sem, (HC.out _ hb').2]; rfl)); go_big_quiet_on))
  refine wpQuiet_nil ?_
  intro w2 hb2
  go_wp2
  go_ret2
  exact ⟨rfl, hb2⟩
set_option maxRecDepth 100000 in
set_option maxHeartbeats 1000000 in
theorem mk_tell (w : World) (p : Nat) (F : Nat → Prop) (m : Mq.St) (t : Nat) (ht : t < 65536) (h : MarkAt w p F m) : Ob.Looks Try.prog 14 #[Ob.ptr p, .int .u16 (t : Int)] w (.tuple #[.int .i64 (Mq.tell m t : Int), .bool (Mq.is m)]) := by
  have HL := mk_last w p F m h
  have hl := Mq.ok_last h.2.2.ok
  have HS : Hid (∀ w' : World, Ob.Looks Try.prog 19 #[.int .u16 (Mq.last m : Int), .int .u16 (t : Int)] w' (.int .i64 (Ck.since (Mq.last m) t : Int))) := fun w' => mk_since w' _ _ hl ht
  unfold Ob.Looks at HL HS ⊢
  cases hi : Mq.is m
  · have e : Mq.tell m t = 0 := by
      obtain ⟨s, b⟩ := m
      cases b with
      | none => rfl
      | some b => cases hi
    rw [e]
    rw [hi] at HL
    clear HS hl ht h e hi
    generalize Mq.last m = L at *
    go_enter Try.func14, Try.ntmps14
    go_wp2_with (go_at_call 16; refine HL.mono ?_; rintro e w1 ⟨rfl, hb1⟩)
    go_ret2
    exact ⟨rfl, hb1⟩
  · have e : Mq.tell m t = Ck.since (Mq.last m) t := by
      obtain ⟨s, b⟩ := m
      cases b with
      | none => cases hi
      | some b => rfl
    rw [e]
    rw [hi] at HL
    clear hl ht h e hi
    generalize Mq.last m = L at *
    generalize Ck.since L t = D at *
    go_enter Try.func14, Try.ntmps14
    go_wp2_with (first | (go_at_call 16; refine HL.mono ?_; rintro e w1 ⟨rfl, hb1⟩) | (go_at_call 19; refine (HS.out _).mono ?_; rintro e w2 ⟨rfl, hb2⟩))
    go_ret2
    exact ⟨rfl, below_joinK hb1 hb2 hb1.size⟩
set_option maxRecDepth 100000 in
set_option maxHeartbeats 2000000 in
theorem mk_start (w : World) (p : Nat) (F : Nat → Prop) (m : Mq.St) (t : Nat) (ht : t < 65536) (h : MarkAt w p F m) : Ob.Turns Try.prog MarkAt 9 #[Ob.ptr p, .int .u16 (t : Int)] w p F (Mq.begin m t) (.tuple #[]) := by
  obtain ⟨rfl, hr, ok⟩ := h
  have HO : Hid (Dk.Ok (Mq.begin m t)) := ⟨Mq.ok_begin ok.ok ht, fun e => by cases e⟩
  obtain ⟨K, hK⟩ : ∃ K, Dk.known m = K := ⟨_, rfl⟩
  obtain ⟨S, hS⟩ : ∃ S, Dk.at0 m = S := ⟨_, rfl⟩
  obtain ⟨L, hL⟩ : ∃ L, Mq.last m = L := ⟨_, rfl⟩
  obtain ⟨C, hC⟩ : ∃ C, Mq.cycle m = C := ⟨_, rfl⟩
  obtain ⟨N, hN⟩ : ∃ N : Nat, max K 1 = N := ⟨_, rfl⟩
  have HM : Hid (RowT 45 w p (Dk.w4 K S L C)) := by show RowT _ _ _ _; rw [← hK, ← hS, ← hL, ← hC]; exact hr
  have HE : Hid (Dk.cs (Mq.begin m t) = Dk.w4 N t L C) := by
    show Dk.cs (Mq.begin m t) = Dk.w4 N t L C
    rw [← hN, ← hK, ← hL, ← hC]
    have wf := ok.wf
    obtain ⟨s, b⟩ := m
    cases s with
    | none => obtain rfl : b = none := wf rfl; rfl
    | some s => cases b <;> rfl
  have e1 : max (K : Int) 1 = (N : Int) := by omega
  clear hK hS hL hC hN ok ht hr
  have HM1 : Hid (RowT 45 (w.setCell ⟨p, 1, none⟩ (.int .u16 (t : Int))) p (Dk.w4 K t L C)) := HM.out.set 1 _
  have f1 := HM.out.f 1
  have c1 : w.cell? ⟨p, 1, none⟩ = some (.int .u16 (S : Int)) := HM.out.c 1 _ rfl
  unfold Ob.Turns
  go_enter Try.func9, Try.ntmps9
  go_wp2_with fail
  refine Lw.region_tail 9 (by kernel_rfl) (by kernel_rfl) ?_
  intro w1 hw1
  have HM2 : Hid (RowT 45 w1 p (Dk.w4 K t L C)) := by subst hw1; exact HM1.out
  have HK1 : Hid (Kept (fun j => j = p) w w1) := by subst hw1; exact (Kept.set _ _ _ rfl : Kept (fun j => j = p) _ _).trans (G := fun _ => False) (Kept.of_below (Below.refl _ _).drew) (fun g h => h.elim)
  clear hw1 HM HM1 f1 c1
  have c0 : w1.cell? ⟨p, 0, none⟩ = some (.int .u16 (K : Int)) := HM2.out.c 0 _ rfl
  have f0 := HM2.out.f 0
  simp only [List.take_succ_cons, List.take_zero, List.drop_succ_cons, List.drop_zero]
  repeat (first | still_step)
  refine wpStill_nil ?_
  go_wp2
  go_end0
  refine ⟨rfl, _, ⟨rfl, ?_, HO.out⟩, fun g hg => Or.inl hg, HK1.out.trans (G := fun j => j = p) (Kept.set _ _ _ rfl) (fun g h => Or.inl h)⟩
  rw [HE.out]
  exact HM2.out.set 0 _
set_option maxRecDepth 100000 in
set_option maxHeartbeats 2000000 in
theorem mk_beat (w : World) (p : Nat) (F : Nat → Prop) (m : Mq.St) (c : Int) (h : MarkAt w p F m) : Ob.Turns Try.prog MarkAt 11 #[Ob.ptr p, .int .i64 c] w p F (Mq.beat m c) (.tuple #[]) := by
  obtain ⟨rfl, hr, ok⟩ := h
  have HO : Hid (Dk.Ok (Mq.beat m c)) := ⟨Mq.ok_beat ok.ok c, by
    have wf := ok.wf
    obtain ⟨s, b⟩ := m
    cases s with
    | none => exact wf
    | some s => intro e; cases e⟩
  have wf := ok.wf
  obtain ⟨s, b⟩ := m
  unfold Ob.Turns
  cases s with
  | none =>
    obtain rfl : b = none := wf rfl
    have c0 : w.cell? ⟨p, 0, none⟩ = some (.int .u16 0) := hr.c 0 _ rfl
    have HM : Hid (RowT 45 w p (Dk.cs ⟨none, none⟩)) := hr
    clear hr ok wf
    go_enter Try.func11, Try.ntmps11
    go_wp2
    (try simp only [Exit.inBlock, Exit.then]); refine bodyPost_ret (results_none rfl _ _ _) rfl ?_
    exact ⟨rfl, _, ⟨rfl, HM.out, HO.out⟩, fun g hg => Or.inl hg, Kept.refl _ _⟩
  | some s =>
    obtain ⟨K, hK⟩ : ∃ K, Dk.known ⟨some s, b⟩ = K := ⟨_, rfl⟩
    obtain ⟨L, hL⟩ : ∃ L, Mq.last ⟨some s, b⟩ = L := ⟨_, rfl⟩
    obtain ⟨C, hC⟩ : ∃ C, Mq.cycle ⟨some s, b⟩ = C := ⟨_, rfl⟩
    have HM : Hid (RowT 45 w p (Dk.w4 K s L C)) := by show RowT _ _ _ _; rw [← hK, ← hL, ← hC]; exact hr
    have HE : Hid (Dk.cs (Mq.beat ⟨some s, b⟩ c) = Dk.w4 2 s s (Mq.hold c : Nat)) := rfl
    obtain ⟨n0, hn0⟩ : ∃ n0 : Int, max c 0 = n0 := ⟨_, rfl⟩
    obtain ⟨H, hH⟩ : ∃ H, Mq.hold c = H := ⟨_, rfl⟩
    have e1 : min n0 7 = (H : Int) := by rw [← hH]; unfold Mq.hold; omega
    have hH7 : (H : Int) ≤ 7 := by have := Mq.hold_le c; omega
    have e2 : IntKind.u16.wrap (H : Int) = (H : Int) := Dk.u16w (by omega) (by omega)
    have hk : (((K : Nat) : Int) == 0) = false := by
      rw [← hK]
      cases b <;> rfl
    rw [hH] at HE
    have c0 : w.cell? ⟨p, 0, none⟩ = some (.int .u16 (K : Int)) := HM.out.c 0 _ rfl
    have f0 := HM.out.f 0
    have HM1 : Hid (RowT 45 (w.setCell ⟨p, 0, none⟩ (.int .u16 2)) p (Dk.w4 2 s L C)) := HM.out.set 0 _
    clear hK hL hC hr ok wf hH HM
    go_enter Try.func11, Try.ntmps11
    go_wp2_with fail
    have HK0 : Hid (Kept (fun j => j = p) w (w.setCell ⟨p, 0, none⟩ (.int .u16 2))) := Kept.set _ _ _ rfl
    refine Lw.region_tail 9 (by kernel_rfl) (by kernel_rfl) ?_
    intro w1 hw1
    have HM2 : Hid (RowT 45 w1 p (Dk.w4 2 s L C)) := by subst hw1; exact HM1.out
    have HK1 : Hid (Kept (fun j => j = p) w w1) := by subst hw1; exact HK0.out.trans (G := fun _ => False) (Kept.of_below (Below.refl _ _).drew) (fun g h => h.elim)
    clear hw1 HM1 HK0 f0 c0
    have c1 : w1.cell? ⟨p, 1, none⟩ = some (.int .u16 (s : Int)) := HM2.out.c 1 _ rfl
    have f2 := HM2.out.f 2
    have c2 : w1.cell? ⟨p, 2, none⟩ = some (.int .u16 (L : Int)) := HM2.out.c 2 _ rfl
    simp only [List.take_succ_cons, List.take_zero, List.drop_succ_cons, List.drop_zero]
    repeat (first | still_step)
    refine wpStill_nil ?_
    have HM3 : Hid (RowT 45 (w1.setCell ⟨p, 2, none⟩ (.int .u16 (s : Int))) p (Dk.w4 2 s s C)) := HM2.out.set 2 _
    have HK3 : Hid (Kept (fun j => j = p) w (w1.setCell ⟨p, 2, none⟩ (.int .u16 (s : Int)))) := HK1.out.sets
    have f3 := HM3.out.f 3
    have c3 : (w1.setCell ⟨p, 2, none⟩ (.int .u16 (s : Int))).cell? ⟨p, 3, none⟩ = some (.int .u16 (C : Int)) := HM3.out.c 3 _ rfl
    clear HM2 HK1 c1
    go_wp2_with fail
    go_end0
    refine ⟨rfl, _, ⟨rfl, ?_, HO.out⟩, fun g hg => Or.inl hg, HK3.out.sets⟩
    rw [HE.out]
    exact HM3.out.set 3 _
theorem markI : Ob.Is MarkAt := OneB.is _ _ _
theorem kinfo10 : (Try.prog.info? 23).map (·.size) = some 1 := by kernel_rfl
set_option maxRecDepth 100000 in
set_option maxHeartbeats 2000000 in
theorem mk_copy (w : World) (p : Nat) (F : Nat → Prop) (m : Mq.St) (h : MarkAt w p F m) : Ob.Makes Try.prog MarkAt 8 #[Ob.ptr p] w m := by
  obtain ⟨rfl, hr, ok⟩ := h
  have HO : Hid (Dk.Ok m) := ok
  have HC : Hid (∀ (w1 : World), Below w.heap.size w w1 → ∀ j v, (Dk.cs m).toList[j]? = some v → w1.cell? (Addr.add ⟨p, 0, none⟩ j) = some v) := by
    intro w1 hb j v hv
    have h1 := (hr.on hb).c j v (by rw [← hv]; simp)
    have hadd : (⟨p, 0, none⟩ : Addr).add j = ⟨p, j, none⟩ := by unfold Addr.add; split <;> simp_all
    rw [hadd]
    exact h1
  have H1 : Hid (∀ v ∈ (Dk.cs m).toList, v.oneCell' = true) := by
    intro v hv
    simp [Dk.cs, Dk.w4] at hv
    rcases hv with rfl | rfl | rfl | rfl <;> rfl
  have HE : Hid (∀ g, (Dk.cs m) = (splice [Value.int .u16 0, Value.int .u16 0, Value.int .u16 0, Value.int .u16 0] 0 (Dk.cs m).toList).toArray ∨ g = 0) := fun g => Or.inl (by simp [splice, Dk.cs, Dk.w4])
  have HN : Hid ((Dk.cs m).toList.length = 4) := rfl
  generalize hcs : Dk.cs m = cs at *
  clear hr ok
  unfold Ob.Makes
  go_enter Try.func8, Try.ntmps8
  go_wp2_with fail
  refine Lw.region_tail 8 (by kernel_rfl) (by kernel_rfl) ?_
  intro w1 hw1
  have HW : Hid (w1.heap[w.heap.size]? = some (.cells [Value.int .u16 0, Value.int .u16 0, Value.int .u16 0, Value.int .u16 0].toArray 45 (0, 0))) := by rw [hw1]; exact heap_alloc_new _ _
  have HB : Hid (Below w.heap.size w w1) := by rw [hw1]; exact ((Below.refl _ _).alloc (Nat.le_refl _) _).drew
  clear hw1
  simp only [List.take_succ_cons, List.take_zero, List.drop_succ_cons, List.drop_zero]
  repeat (first | still_step)
  refine wpStill_nil ?_
  go_wp2_with (refine wpList_copy_splice (P := Try.prog) rfl (.tmp 9) (.tmp 13) 46 46 rfl 23 Try.underlying46 kinfo10 (some ⟨w.heap.size, 0, none⟩) (some ⟨p, 0, none⟩) 4 4 4 4 rfl rfl w.heap.size 0 [Value.int .u16 0, Value.int .u16 0, Value.int .u16 0, Value.int .u16 0] 45 HW.out cs.toList HN.out (fun _ => ⟨rfl, _, rfl, HC.out _ HB.out⟩) (by rw [HN.out]; exact Nat.le_refl _) H1.out w.heap.size w HB.out (Nat.le_refl _) ?_; intro w2 HG2 hb2)
  go_ret
  refine ⟨_, _, rfl, ⟨rfl, ?_, HO.out⟩, fun g hg => by omega, hb2⟩
  show w2.heap[w.heap.size]? = _
  rw [hcs, HG2.out]
  exact congrArg (fun x => some (Obj.cells x 45 (0, 0))) ((HE.out 1).elim Eq.symm (fun h => absurd h (by decide)))
set_option maxRecDepth 100000 in
set_option maxHeartbeats 2000000 in
theorem mk_forget (w : World) (p : Nat) (F : Nat → Prop) (m : Mq.St) (h : MarkAt w p F m) : Ob.Turns Try.prog MarkAt 13 #[Ob.ptr p] w p F Mq.no (.tuple #[]) := by
  obtain ⟨rfl, hr, ok⟩ := h
  have HO : Hid (Dk.Ok Mq.no) := ⟨Mq.ok_no, fun _ => rfl⟩
  have HM : Hid (RowT 45 w p (Dk.cs m)) := hr
  have HR : Hid ((Builtin.clear_ #[46] 0 #[.slice (some ⟨p, 0, none⟩) 4 4]).run Try.prog w = .ok (.tuple #[]) (w.setCells p 0 (List.replicate 4 (Value.int .u16 0)))) :=
    Lib.run_clear_slice w 46 23 0 (Value.int .u16 0) Try.underlying46 (fun w => by rfl) rfl rfl p 0 4 4 (by decide)
      (fun j hj => by
        have : j = 0 ∨ j = 1 ∨ j = 2 ∨ j = 3 := by omega
        rcases this with rfl | rfl | rfl | rfl
        · rw [hr.c 0 _ rfl]; rfl
        · rw [hr.c 1 _ rfl]; rfl
        · rw [hr.c 2 _ rfl]; rfl
        · rw [hr.c 3 _ rfl]; rfl)
      (fun j hj => hr.f _)
  clear hr
  unfold Ob.Turns
  go_enter Try.func13, Try.ntmps13
  go_wp2_with fail
  rw [HR.out]
  go_wp2
  go_end0
  exact ⟨rfl, _, ⟨rfl, (((HM.out.set 0 _).set 1 _).set 2 _).set 3 _, HO.out⟩, fun g hg => Or.inl hg, (Kept.refl _ _).sets.sets.sets.sets⟩
theorem markSpec : MarkSpec MarkAt where
  is := markI
  ok := fun h => h.2.2.ok
  new := mk_new
  start := mk_start
  beat := fun w p F m c _ h => mk_beat w p F m c h
  forget := mk_forget
  tell := mk_tell
  cycle := mk_cycle
  last := mk_last
  copy := mk_copy
end Go.Proofs.Ytkdpdeokpndblaa
