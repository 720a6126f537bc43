/- Package queue, landed: Put and Take. -/
import Derived.Test.YtkgeknkppnadfaaVo
namespace Go.Proofs.Ytkgeknkppnadfaa
open Go.RowKit Go.WideShapes
set_option linter.unusedVariables false
theorem Qc.end_ {w w1 w2 : World} {p c : Nat} {F : Nat → Prop} {s : Vq.St} (hF : ∀ g, F g ↔ g = p ∨ g = c) (hO : Vq.Ok s) (hk : Kept F w w1) (h2 : Qc 0 w2 p c s.room s.l) (k2 : Kept (fun g => g = p) w1 w2) :
    ∃ F', QueueAt w2 p F' s ∧ (∀ g, F' g → F g ∨ w.heap.size ≤ g) ∧ Kept F w w2 :=
  ⟨F, ⟨c, hF, h2, hO⟩, fun g hg => Or.inl hg, hk.trans k2 (fun g e => Or.inl ((hF g).2 (Or.inl e)))⟩
set_option maxRecDepth 100000 in
set_option maxHeartbeats 1000000 in
theorem qk_put (w : World) (p : Nat) (F : Nat → Prop) (s : Vq.St) (m : Int) (d : ByteArray) (h : QueueAt w p F s) : Ob.Turns Try.prog QueueAt 30 #[Ob.ptr p, .int .i64 m, .string d] w p F (Vq.putS s ⟨m, d⟩) (.int .i64 (Vq.putE s)) := by
  obtain ⟨c, hF, hq, hO⟩ := h
  have HQ : Hid (Qc 0 w p c s.room s.l) := hq
  have HF : Hid (∀ g, F g ↔ g = p ∨ g = c) := hF
  have HO : Hid (Vq.Ok (Vq.putS s ⟨m, d⟩)) := Vq.ok_put hO _
  clear hF hq hO
  obtain ⟨room, l⟩ := s
  dsimp only at HQ
  unfold Ob.Turns
  refine Vn.callsD Try.func30 rfl ?_
  simp only [Try.ntmps30, List.size_toArray, List.length_cons, List.length_nil, Nat.reduceAdd, Nat.reduceSub, Array.replicate_succ, Array.replicate_zero, List.push_toArray, List.append_toArray, List.nil_append, List.cons_append]
  refine Vn.seq (Vn.of_wp ?_)
  go_wp2_with fail
  refine Vn.seq (Vn.of_wp ?_)
  go_wp2_with (go_at_call 46; refine (q_lock HQ.out).mono ?_; rintro e w1 ⟨rfl, hq1, hk1⟩)
  have HQ1 : Hid (Qc 1 w1 p c room l) := hq1
  have HK1 : Hid (Kept F w w1) := hk1.mono (fun g e => (HF.out g).2 (Or.inl e))
  obtain ⟨sn, rn, hc⟩ := hq1.ch
  have c0 := hq1.row.c 2 _ rfl
  have hsz := bufV_size l
  clear HQ hq1 hk1
  refine Vn.seq (Vn.of_wp ?_)
  go_wp2_with fail
  refine Vn.seq ?_
  refine Vn.seq (Vn.of_wp ?_)
  go_wp2_with fail
  refine Vn.of_wp ?_
  go_wp2_with fail
  refine Vn.seq ?_
  refine Vn.region [0, 1, 2] rfl ?_
  by_cases hr : l.length < room
  · have HS : Hid (Vq.putS ⟨room, l⟩ ⟨m, d⟩ = ⟨room, l ++ [⟨m, d⟩]⟩) := by show _ = _; unfold Vq.putS; rw [if_pos hr]
    have hE : Vq.putE ⟨room, l⟩ = 0 := by unfold Vq.putE; rw [if_pos hr]
    rw [HS.out] at HO ⊢
    rw [hE]
    have HQ2 : Hid (Qc 1 (w1.setChan c room ((bufV l).push (dV ⟨m, d⟩)) false (sn + 1) rn false) p c room (l ++ [⟨m, d⟩])) := by
      show Qc _ _ _ _ _ _
      rw [bufV_push]
      exact HQ1.out.put _ _ _
    have HK2 : Hid (Kept F w (w1.setChan c room ((bufV l).push (dV ⟨m, d⟩)) false (sn + 1) rn false)) := HK1.out.trans (setChan_kept _ _ _ _ _ _ _ _) (fun g e => Or.inl ((HF.out g).2 (Or.inr e)))
    have hroom : (bufV l).size < room := by rw [hsz]; exact hr
    clear hE HS HQ1 HK1 hsz hr c0
    refine Vn.Reg.selSend (v := dV ⟨m, d⟩) (z' := .agg #[.int .i64 0, .string ⟨#[]⟩]) rfl rfl (by simp [go_sem, execOp, Conc.scase, Act.eval]) hc hroom ?_
    refine Vn.Reg.tail 1 2 rfl ?_
    simp only [List.drop_succ_cons, List.drop_zero, Act.put, List.setIfInBounds_toArray]
    clear hc hroom
    generalize w1.setChan c room ((bufV l).push (dV ⟨m, d⟩)) false (sn + 1) rn false = w2 at HQ2 HK2 ⊢
    go_wp2_with fail
    refine Vn.of_wp ?_
    go_wp2_with fail
    exact q_leave HQ2.out fun w3 h3 k3 => ⟨_, results_tmp rfl _ _ _, rfl, Qc.end_ HF.out HO.out HK2.out h3 k3⟩
  · have HS : Hid (Vq.putS ⟨room, l⟩ ⟨m, d⟩ = ⟨room, l⟩) := by show _ = _; unfold Vq.putS; rw [if_neg hr]
    have hE : Vq.putE ⟨room, l⟩ = 170 := by unfold Vq.putE; rw [if_neg hr]
    rw [HS.out] at HO ⊢
    rw [hE]
    have hfull : room ≤ (bufV l).size := by rw [hsz]; omega
    clear hE HS hsz hr c0
    refine Vn.Reg.selFull (v := dV ⟨m, d⟩) (z' := .agg #[.int .i64 0, .string ⟨#[]⟩]) rfl rfl (by simp [go_sem, execOp, Conc.scase, Act.eval]) hc hfull ?_
    refine Vn.Reg.tail 1 2 rfl ?_
    simp only [List.drop_succ_cons, List.drop_zero, Act.put, List.setIfInBounds_toArray]
    clear hc hfull
    go_wp2_with fail
    refine Vn.of_wp ?_
    go_wp2_with fail
    exact q_leave HQ1.out fun w3 h3 k3 => ⟨_, results_tmp rfl _ _ _, rfl, Qc.end_ HF.out HO.out HK1.out h3 k3⟩
theorem Kept.setRowNew {F : Nat → Prop} {w w' : World} (h : Kept F w w') {q : Nat} (hq : w.heap.size ≤ q) (cs : Array Value) : Kept F w (w'.setRow q cs) :=
  h.trans (G := fun j => j = q) ⟨rfl, rfl, rfl, by simp [World.setRow], fun k _ hk => setRow_other w' q k _ (fun e => hk (by omega))⟩ (fun g hg => Or.inr (by omega))
theorem dinfo : (Try.prog.info? 43).map (·.size) = some 2 := by kernel_rfl
set_option maxRecDepth 100000 in
set_option maxHeartbeats 1000000 in
theorem qk_take (w : World) (p : Nat) (F : Nat → Prop) (s : Vq.St) (h : QueueAt w p F s) : Ob.Turns Try.prog QueueAt 35 #[Ob.ptr p] w p F (Vq.takeS s) (.tuple #[dV (Vq.hd s), .int .i64 (Vq.takeE s)]) := by
  obtain ⟨c, hF, hq, hO⟩ := h
  have hb1 : Below w.heap.size w (w.alloc (.cells #[.int .i64 0, .string ⟨#[]⟩] 43)) := (Below.refl _ _).alloc (Nat.le_refl _) _
  have HQ : Hid (Qc 0 (w.alloc (.cells #[.int .i64 0, .string ⟨#[]⟩] 43)) p c s.room s.l) := hq.on hb1
  have HR : Hid (RowT 43 (w.alloc (.cells #[.int .i64 0, .string ⟨#[]⟩] 43)) w.heap.size #[.int .i64 0, .string ⟨#[]⟩]) := RowT.new _ w _
  have HK : Hid (Kept F w (w.alloc (.cells #[.int .i64 0, .string ⟨#[]⟩] 43))) := Kept.of_below hb1
  have hqc : w.heap.size ≠ c := by have := hq.lt; omega
  have hqp : w.heap.size ≠ p := by have := hq.lt; omega
  have HF : Hid (∀ g, F g ↔ g = p ∨ g = c) := hF
  have HO : Hid (Vq.Ok (Vq.takeS s)) := Vq.ok_take hO
  clear hF hq hO hb1
  obtain ⟨room, l⟩ := s
  dsimp only at HQ
  unfold Ob.Turns
  refine Vn.callsD Try.func35 rfl ?_
  simp only [Try.ntmps35, List.size_toArray, List.length_cons, List.length_nil, Nat.reduceAdd, Nat.reduceSub, Array.replicate_succ, Array.replicate_zero, List.push_toArray, List.append_toArray, List.nil_append, List.cons_append]
  refine Vn.seq (Vn.of_wp ?_)
  go_wp2_with fail
  generalize w.alloc (.cells #[.int .i64 0, .string ⟨#[]⟩] 43) = w0 at HQ HR HK ⊢
  obtain ⟨q, hqe⟩ : ∃ q, w.heap.size = q := ⟨_, rfl⟩
  have HS : Hid (w.heap.size = q) := hqe
  rw [hqe] at HR hqc hqp ⊢
  clear hqe
  refine Vn.seq (Vn.of_wp ?_)
  go_wp2_with (go_at_call 46; refine (q_lock HQ.out).mono ?_; rintro e w1 ⟨rfl, hq1, hk1⟩)
  have HQ1 : Hid (Qc 1 w1 p c room l) := hq1
  have HK1 : Hid (Kept F w w1) := HK.out.trans hk1 (fun g e => Or.inl ((HF.out g).2 (Or.inl e)))
  have HR1 : Hid (RowT 43 w1 q #[.int .i64 0, .string ⟨#[]⟩]) := HR.out.kept hk1 hqp
  obtain ⟨sn, rn, hc⟩ := hq1.ch
  have c0 := hq1.row.c 2 _ rfl
  clear HQ hq1 hk1 HK HR
  refine Vn.seq (Vn.of_wp ?_)
  go_wp2_with fail
  refine Vn.seq (Vn.of_wp ?_)
  go_wp2_with fail
  refine Vn.seq ?_
  refine Vn.region [0, 1, 2] rfl ?_
  cases l with
  | nil =>
    refine Vn.Reg.selEmpty (c := c) (z := .agg #[.int .i64 0, .string ⟨#[]⟩]) rfl rfl (by simp [go_sem, execOp, Conc.rcase, Act.eval]) hc ?_
    refine Vn.Reg.tail 1 2 rfl ?_
    simp only [List.drop_succ_cons, List.drop_zero, Act.put, List.setIfInBounds_toArray]
    clear c0 hc
    go_wp2_with fail
    refine Vn.of_wp ?_
    go_wp2_with (refine wpList_store_row (P := Try.prog) rfl 43 (.tmp 2) (.tmp 19) rfl q #[.int .i64 0, .string ⟨#[]⟩] rfl rfl 43 _ HR1.out dinfo rfl (by simp [Value.oneCell']) ?_)
    have HRz : Hid (RowT 43 (w1.setRow q #[.int .i64 0, .string ⟨#[]⟩]) q #[.int .i64 0, .string ⟨#[]⟩]) := setRow_heap w1 _ _ _ _ _ HR1.out
    have HQz : Hid (Qc 1 (w1.setRow q #[.int .i64 0, .string ⟨#[]⟩]) p c room []) := HQ1.out.same (setRow_other _ _ _ _ (by omega)) (setRow_other _ _ _ _ (by omega))
    have HKz : Hid (Kept F w (w1.setRow q #[.int .i64 0, .string ⟨#[]⟩])) := HK1.out.setRowNew (Nat.le_of_eq HS.out) _
    clear HQ1 HK1 HR1
    generalize w1.setRow q #[.int .i64 0, .string ⟨#[]⟩] = wz at HRz HQz HKz ⊢
    refine q_leave HQz.out fun w3 h3 k3 => ?_
    have hz := HRz.out.kept k3 hqp
    have z0 := hz.c 0 _ rfl
    have z1 := hz.c 1 _ rfl
    exact ⟨.tuple #[dV Vq.Dl.no, .int .i64 171], by simp [results, Try.results35, go_sem, Vq.Dl.no, z0, z1]; rfl, rfl, by rw [← HS.out]; exact Qc.end_ HF.out HO.out HKz.out h3 k3⟩
  | cons d l =>
    refine Vn.Reg.selRecv (c := c) (z := .agg #[.int .i64 0, .string ⟨#[]⟩]) rfl rfl (by simp [go_sem, execOp, Conc.rcase, Act.eval]) hc (by rw [bufV_size]; simp) ?_
    rw [bufV_head, bufV_tail]
    have HQ2 : Hid (Qc 1 (w1.setChan c room (bufV l) false sn (rn + 1) false) p c room l) := HQ1.out.put l sn (rn + 1)
    have HR2 : Hid (RowT 43 (w1.setChan c room (bufV l) false sn (rn + 1) false) q #[.int .i64 0, .string ⟨#[]⟩]) := HR1.out.kept (setChan_kept _ _ _ _ _ _ _ _) hqc
    have HK2 : Hid (Kept F w (w1.setChan c room (bufV l) false sn (rn + 1) false)) := HK1.out.trans (setChan_kept _ _ _ _ _ _ _ _) (fun g hg => Or.inl ((HF.out g).2 (Or.inr hg)))
    simp only [List.tail_cons]
    clear HQ1 HR1 HK1 hc c0
    generalize w1.setChan c room (bufV l) false sn (rn + 1) false = w2 at HQ2 HR2 HK2 ⊢
    refine Vn.Reg.tail 1 2 rfl ?_
    simp only [List.drop_succ_cons, List.drop_zero, Act.put, List.setIfInBounds_toArray]
    obtain ⟨dm, dd⟩ := d
    go_wp2_with fail
    refine Vn.of_wp ?_
    go_upto_region 7 with fail
    have hb : Below w2.heap.size w2 (w2.alloc (.cells #[.int .i64 dm, .string dd] 43)) := (Below.refl _ _).alloc (Nat.le_refl _) _
    have HR3 : Hid (RowT 43 (w2.alloc (.cells #[.int .i64 dm, .string dd] 43)) q #[.int .i64 0, .string ⟨#[]⟩]) := HR2.out.on hb
    have HQ3 : Hid (Qc 1 (w2.alloc (.cells #[.int .i64 dm, .string dd] 43)) p c room l) := HQ2.out.on hb
    have HK3 : Hid (Kept F w (w2.alloc (.cells #[.int .i64 dm, .string dd] 43))) := HK2.out.trans (Kept.of_below (F := fun _ => False) hb) (fun g hg => hg.elim)
    have hd := RowT.new 43 w2 #[.int .i64 dm, .string dd]
    have d0 := hd.c 0 _ rfl
    have d1 := hd.c 1 _ rfl
    clear hb hd HR2 HQ2 HK2
    generalize w2.alloc (.cells #[.int .i64 dm, .string dd] 43) = w3 at HQ3 HR3 HK3 d0 d1 ⊢
    go_wp2_with (refine wpList_store_row (P := Try.prog) rfl 43 (.tmp 2) (.tmp 21) rfl q #[.int .i64 dm, .string dd] rfl rfl 43 _ HR3.out dinfo rfl (by simp [Value.oneCell']) ?_)
    have HRz : Hid (RowT 43 (w3.setRow q #[.int .i64 dm, .string dd]) q #[.int .i64 dm, .string dd]) := setRow_heap w3 _ _ _ _ _ HR3.out
    have HQz : Hid (Qc 1 (w3.setRow q #[.int .i64 dm, .string dd]) p c room l) := HQ3.out.same (setRow_other _ _ _ _ (by omega)) (setRow_other _ _ _ _ (by omega))
    have HKz : Hid (Kept F w (w3.setRow q #[.int .i64 dm, .string dd])) := HK3.out.setRowNew (Nat.le_of_eq HS.out) _
    clear HQ3 HK3 HR3 d0 d1
    generalize w3.setRow q #[.int .i64 dm, .string dd] = wz at HRz HQz HKz ⊢
    refine q_leave HQz.out fun w4 h4 k4 => ?_
    have hz := HRz.out.kept k4 hqp
    have z0 := hz.c 0 _ rfl
    have z1 := hz.c 1 _ rfl
    exact ⟨.tuple #[dV ⟨dm, dd⟩, .int .i64 0], by simp [results, Try.results35, go_sem, z0, z1], rfl, by rw [← HS.out]; exact Qc.end_ HF.out HO.out HKz.out h4 k4⟩
end Go.Proofs.Ytkgeknkppnadfaa
