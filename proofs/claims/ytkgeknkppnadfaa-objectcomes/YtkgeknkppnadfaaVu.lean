/- Package queue, landed: All as it is asked for, Head. -/
import Derived.Test.YtkgeknkppnadfaaVs
namespace Go.Proofs.Ytkgeknkppnadfaa
open Go.RowKit Go.WideShapes
set_option linter.unusedVariables false
theorem qk_all (W : World) (p : Nat) (F : Nat → Prop) (s : Vq.St) (h : QueueAt W p F s) : Calls Try.prog 45 #[Ob.ptr p] W fun e w' => ∃ a c F', e = .returned (.slice a s.l.length c) ∧ Sg.OL 43 2 W.heap.size w' a c s.l.length (s.l.flatMap dC) ∧ QueueAt w' p F' s ∧ (∀ g, F' g → F g ∨ W.heap.size ≤ g) ∧ (∀ g, Sg.At_ a c g → ¬ F' g) ∧ Kept F W w' := by
  obtain ⟨c, hF, hq, hO⟩ := h
  refine (qk_all0 W p c s.room s.l hq hO).mono ?_
  rintro e w' ⟨a, rfl, ho, hq1, hk1⟩
  refine ⟨a, s.l.length, F, rfl, ho, ⟨c, hF, hq1, hO⟩, fun g hg => Or.inl hg, fun x hx hf => ?_, hk1.mono (fun g e => (hF g).2 e)⟩
  obtain ⟨g', o, cur, e1, hB, hh⟩ := ho.ty hx.1
  have h2 := hx.2
  rw [e1] at h2
  injection h2 with h2
  dsimp only at h2
  have := hq.lt
  rcases (hF x).1 hf with e | e <;> omega
set_option maxRecDepth 100000 in
set_option maxHeartbeats 1000000 in
theorem qk_head (w : World) (p : Nat) (F : Nat → Prop) (s : Vq.St) (h : QueueAt w p F s) : Ob.Turns Try.prog QueueAt 34 #[Ob.ptr p] w p F s (.tuple #[dV (Vq.hd s), .bool (decide (0 < s.l.length))]) := by
  obtain ⟨c, hF, hq, hO⟩ := h
  have hb1 : Below w.heap.size w (w.alloc (.cells #[.int .i64 0, .string ⟨#[]⟩] 43)) := (Below.refl _ _).alloc (Nat.le_refl _) _
  have HQ : Hid (Qc 0 (w.alloc (.cells #[.int .i64 0, .string ⟨#[]⟩] 43)) p c s.room s.l) := hq.on hb1
  have HR : Hid (RowT 43 (w.alloc (.cells #[.int .i64 0, .string ⟨#[]⟩] 43)) w.heap.size #[.int .i64 0, .string ⟨#[]⟩]) := RowT.new _ w _
  have HK : Hid (Kept F w (w.alloc (.cells #[.int .i64 0, .string ⟨#[]⟩] 43))) := Kept.of_below hb1
  have hqc : w.heap.size ≠ c := by have := hq.lt; omega
  have hqp : w.heap.size ≠ p := by have := hq.lt; omega
  have HF : Hid (∀ g, F g ↔ g = p ∨ g = c) := hF
  have HO : Hid (Vq.Ok s) := hO
  clear hF hq hO hb1
  obtain ⟨room, l⟩ := s
  dsimp only at HQ
  have HFk : Hid (∀ g, g = p ∨ g = c → F g) := fun g e => (HF.out g).2 e
  unfold Ob.Turns
  go_enter Try.func34, Try.ntmps34
  go_upto_region 1 with fail
  have HQS : Hid (w.heap.size < (w.alloc (.cells #[.int .i64 0, .string ⟨#[]⟩] 43)).heap.size) := HR.out.lt
  generalize w.alloc (.cells #[.int .i64 0, .string ⟨#[]⟩] 43) = w0 at HQ HR HK HQS ⊢
  obtain ⟨q, hqe⟩ : ∃ q, w.heap.size = q := ⟨_, rfl⟩
  have HS : Hid (w.heap.size = q) := hqe
  rw [hqe] at HR hqc hqp HQS ⊢
  clear hqe
  go_upto_region 2 with (go_at_call 45; refine (qk_all0 _ p c room l HQ.out HO.out).mono ?_; rintro e w1 ⟨a, rfl, ho, hq1, hk1⟩)
  have HQ1 : Hid (Qc 0 w1 p c room l) := hq1
  have HK1 : Hid (Kept F w w1) := HK.out.trans hk1 (fun g e => Or.inl (HFk.out g e))
  have HR1 : Hid (RowT 43 w1 q #[.int .i64 0, .string ⟨#[]⟩]) := HR.out.kept hk1 (fun e => e.elim hqp hqc)
  have HL : Hid (Sg.OL 43 2 w0.heap.size w1 a l.length l.length (l.flatMap dC)) := ho
  clear HQ hq1 hk1 HK HR ho
  cases l with
  | nil =>
    simp only [List.length_nil]
    go_wp2_with (refine wpList_store_row (P := Try.prog) rfl 43 (.tmp 2) (.tmp 10) rfl q #[.int .i64 0, .string ⟨#[]⟩] rfl rfl 43 _ HR1.out dinfo rfl (by simp [Value.oneCell']) ?_)
    have HRz : Hid (RowT 43 (w1.setRow q #[.int .i64 0, .string ⟨#[]⟩]) q #[.int .i64 0, .string ⟨#[]⟩]) := setRow_heap w1 _ _ _ _ _ HR1.out
    have HQz : Hid (Qc 0 (w1.setRow q #[.int .i64 0, .string ⟨#[]⟩]) p c room []) := HQ1.out.same (setRow_other _ _ _ _ (by omega)) (setRow_other _ _ _ _ (by omega))
    have HKz : Hid (Kept F w (w1.setRow q #[.int .i64 0, .string ⟨#[]⟩])) := HK1.out.setRowNew (Nat.le_of_eq HS.out) _
    clear HQ1 HK1 HR1
    generalize w1.setRow q #[.int .i64 0, .string ⟨#[]⟩] = wz at HRz HQz HKz ⊢
    have z0 := HRz.out.c 0 _ rfl
    have z1 := HRz.out.c 1 _ rfl
    exact bodyPost_ret (v := .tuple #[dV Vq.Dl.no, .bool false]) (by simp [results, Try.results34, go_sem, Vq.Dl.no, z0, z1]; rfl) rfl ⟨rfl, F, ⟨c, HF.out, HQz.out, HO.out⟩, fun g hg => Or.inl hg, by rw [← HS.out] at *; exact HKz.out⟩
  | cons d l =>
    obtain ⟨dm, dd⟩ := d
    obtain ⟨g, o, cur, ea, hB, hrow⟩ := HL.out.ty (by simp)
    subst ea
    obtain ⟨e0, e1⟩ := dl_cells (k := 0) HL.out (d := ⟨dm, dd⟩) rfl
    simp only [Nat.zero_mul, Nat.add_zero] at e0 e1
    have hn1 : 0 < (⟨dm, dd⟩ :: l : List Vq.Dl).length := by simp
    have hn4 : (⟨dm, dd⟩ :: l : List Vq.Dl).length ≤ 4 := by have h := HO.out; exact Nat.le_trans h.2.2 h.2.1
    have hn0 : ¬ (((⟨dm, dd⟩ :: l : List Vq.Dl).length : Int) = 0) := by omega
    have hgq : g ≠ q := by have := HQS.out; omega
    clear hB hrow
    generalize (⟨dm, dd⟩ :: l : List Vq.Dl).length = N at *
    go_wp2_with (refine wpList_store_row (P := Try.prog) rfl 43 (.tmp 2) (.tmp 13) rfl q #[.int .i64 dm, .string dd] rfl rfl 43 _ HR1.out dinfo rfl (by simp [Value.oneCell']) ?_)
    have HRz : Hid (RowT 43 (w1.setRow q #[.int .i64 dm, .string dd]) q #[.int .i64 dm, .string dd]) := setRow_heap w1 _ _ _ _ _ HR1.out
    have HQz : Hid (Qc 0 (w1.setRow q #[.int .i64 dm, .string dd]) p c room (⟨dm, dd⟩ :: l)) := HQ1.out.same (setRow_other _ _ _ _ (by omega)) (setRow_other _ _ _ _ (by omega))
    have HKz : Hid (Kept F w (w1.setRow q #[.int .i64 dm, .string dd])) := HK1.out.setRowNew (Nat.le_of_eq HS.out) _
    clear HQ1 HK1 HR1 e0 e1
    generalize w1.setRow q #[.int .i64 dm, .string dd] = wz at HRz HQz HKz ⊢
    have z0 := HRz.out.c 0 _ rfl
    have z1 := HRz.out.c 1 _ rfl
    exact bodyPost_ret (v := .tuple #[dV ⟨dm, dd⟩, .bool true]) (by simp [results, Try.results34, go_sem, z0, z1]) rfl ⟨by simp [Vq.hd], F, ⟨c, HF.out, HQz.out, HO.out⟩, fun g hg => Or.inl hg, by rw [← HS.out] at *; exact HKz.out⟩
end Go.Proofs.Ytkgeknkppnadfaa
