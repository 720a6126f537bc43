/- Package queue, landed: a copy. -/
import Derived.Test.YtkgeknkppnadfaaVu
namespace Go.Proofs.Ytkgeknkppnadfaa
open Go.RowKit Go.WideShapes
set_option linter.unusedVariables false
/-- While a copy is made: the queue, the copy with what it has so far, all that is to be laid in. -/
structure Qp (W w : World) (p c room : Nat) (l t : List Vq.Dl) (p2 c2 : Nat) (a : Option Addr) (N : Nat) : Prop where
  q : Qc 0 w p c room l
  q2 : Qc 0 w p2 c2 room t
  ol : Sg.OL 43 2 W.heap.size w a N N (l.flatMap dC)
  kept : Kept (fun g => g = p ∨ g = c) W w
  old : p < W.heap.size ∧ c < W.heap.size
  new : W.heap.size ≤ p2 ∧ W.heap.size ≤ c2
  apart : ∀ x, Sg.At_ a N x → x ≠ p2 ∧ x ≠ c2
section
variable {W w w' : World} {p c room N p2 c2 : Nat} {a : Option Addr} {l t t' : List Vq.Dl}
theorem Qp.on (h : Qp W w p c room l t p2 c2 a N) (hb : Below w.heap.size w w') : Qp W w' p c room l t p2 c2 a N :=
  ⟨h.q.on hb, h.q2.on hb, h.ol.on hb, h.kept.trans (Kept.of_below (F := fun _ => False) hb) (fun g hg => hg.elim), h.old, h.new, h.apart⟩
theorem Qp.lt (h : Qp W w p c room l t p2 c2 a N) {q : Nat} (hq : w.heap.size ≤ q) : q ≠ p ∧ q ≠ c ∧ q ≠ p2 ∧ q ≠ c2 ∧ ∀ x, Sg.At_ a N x → x ≠ q := by
  have h1 := h.q.lt
  have h2 := h.q2.lt
  exact ⟨by omega, by omega, by omega, by omega, fun x hx => by have := h.ol.lt x hx; omega⟩
theorem Qp.kept' {F : Nat → Prop} (h : Qp W w p c room l t p2 c2 a N) (hk : Kept F w w') {q : Nat} (hF : ∀ x, F x → x = q) (hq : W.heap.size ≤ q) (hn : q ≠ p ∧ q ≠ c ∧ q ≠ p2 ∧ q ≠ c2 ∧ ∀ x, Sg.At_ a N x → x ≠ q) : Qp W w' p c room l t p2 c2 a N :=
  ⟨h.q.kept hk (fun e => hn.1 (hF _ e).symm) (fun e => hn.2.1 (hF _ e).symm), h.q2.kept hk (fun e => hn.2.2.1 (hF _ e).symm) (fun e => hn.2.2.2.1 (hF _ e).symm), h.ol.kept hk (fun x hx e => hn.2.2.2.2 x hx (hF _ e)), h.kept.trans hk (fun x e => Or.inr (by rw [hF x e]; exact hq)), h.old, h.new, h.apart⟩
theorem Qp.put (h : Qp W w p c room l t p2 c2 a N) (t' : List Vq.Dl) (sn rn : Nat) : Qp W (w.setChan c2 room (bufV t') false sn rn false) p c room l t' p2 c2 a N := by
  have hk := setChan_kept w c2 room (bufV t') false sn rn false
  have h1 := h.old
  have h2 := h.new
  exact ⟨h.q.kept hk (fun e => by have := h2.2; omega) (fun e => by have := h2.2; omega), h.q2.put t' sn rn, h.ol.kept hk (fun x hx e => (h.apart x hx).2 e), h.kept.trans hk (fun x e => Or.inr (by rw [e]; exact h2.2)), h1, h2, h.apart⟩
end
theorem setRow_kept (w : World) (q : Nat) (cs : Array Value) : Kept (fun j => j = q) w (w.setRow q cs) :=
  ⟨rfl, rfl, rfl, by simp [World.setRow], fun k _ hk => setRow_other w q k _ hk⟩
set_option maxRecDepth 100000 in
set_option maxHeartbeats 4000000 in
theorem qk_copy0 (W : World) (p c room : Nat) (l : List Vq.Dl) (hq : Qc 0 W p c room l) (hO : Vq.Ok ⟨room, l⟩) : Calls Try.prog 28 #[Ob.ptr p] W fun e w' => ∃ q c2, e = .returned (Ob.ptr q) ∧ Qc 0 w' p c room l ∧ Qc 0 w' q c2 room l ∧ W.heap.size ≤ q ∧ W.heap.size ≤ c2 ∧ Kept (fun g => g = p ∨ g = c) W w' := by
  have HO : Hid (Vq.Ok ⟨room, l⟩) := hO
  have hr4 : room ≤ 4 := hO.2.1
  have HQ : Hid (Qc 0 W p c room l) := hq
  have HW : Hid (p < W.heap.size ∧ c < W.heap.size) := hq.lt
  obtain ⟨sn, rn, hc⟩ := hq.ch
  have c0 := hq.row.c 2 _ rfl
  have hcap := cap_chan 3 hc
  clear hO hq hc
  refine Vn.calls Try.func28 rfl ?_
  simp only [Try.ntmps28, List.size_toArray, List.length_cons, List.length_nil, Nat.reduceAdd, Nat.reduceSub, Array.replicate_succ, Array.replicate_zero, List.push_toArray, List.append_toArray, List.nil_append, List.cons_append]
  refine Vn.seq (Vn.of_wp ?_)
  go_wp2_with fail
  refine Vn.seq (Vn.of_wp ?_)
  go_wp2_with (go_at_call 43; refine (qk_hold _ _ room rfl hr4).mono ?_; rintro e1 w1 ⟨p2, c2, rfl, hq2, hp2, hc2, hb2⟩)
  have HQ1 : Hid (Qc 0 w1 p c room l) := HQ.out.on hb2
  have HP1 : Hid (Qc 0 w1 p2 c2 room []) := hq2
  have HN1 : Hid (W.heap.size ≤ p2 ∧ W.heap.size ≤ c2) := ⟨hp2, hc2⟩
  have HK1 : Hid (Kept (fun g => g = p ∨ g = c) W w1) := Kept.of_below hb2
  clear c0 hcap hq2 hp2 hc2 hb2 HQ hr4
  refine Vn.seq ?_
  refine Vn.seq (Vn.of_wp ?_)
  go_wp2_with (go_at_call 45; refine (qk_all0 _ p c room l HQ1.out HO.out).mono ?_; rintro e2 w2 ⟨a, rfl, hol, hq2, hk2⟩)
  have HL : Hid (Qp W w2 p c room l [] p2 c2 a l.length) := by
    have h1 := HP1.out.lt
    have h2 := HN1.out
    have h3 := HW.out
    refine ⟨hq2, HP1.out.kept hk2 (fun e => by omega) (fun e => by omega), hol.mono HK1.out.size, HK1.out.trans hk2 (fun g e => Or.inl e), h3, h2, fun x hx => ?_⟩
    obtain ⟨g', o, cur, e1, hB, hh⟩ := hol.ty hx.1
    have h4 := hx.2
    rw [e1] at h4
    injection h4 with h4
    dsimp only at h4
    omega
  have hl4 : l.length ≤ 4 := by have h := HO.out; exact Nat.le_trans h.2.2 h.2.1
  have HRl : Hid (l.length ≤ room) := HO.out.2.2
  clear HQ1 HP1 HN1 HK1 hol hq2 hk2 HW HO
  generalize hNe : l.length = N at hl4 HL HRl ⊢
  have HN : Hid (l.length = N) := hNe
  clear hNe
  refine Vn.block ?_
  refine Vn.loop (fun n b w => ∃ (k : Nat) (u5 u16 u17 u18 u19 u20 u21 u22 u23 u24 : Value), n = N - k ∧ k ≤ N ∧ Hid (Qp W w p c room l (l.take k) p2 c2 a N) ∧ b = ⟨#[Ob.ptr p, undef, .pointer none, Ob.ptr p2, undef, u5, Ob.ptr p, .pointer (some ⟨p, 0, none⟩), .pointer (some ⟨p, 2, none⟩), .chan (some c), .int .i64 (room : Int), Ob.ptr p2, Ob.ptr p, .slice a N N, .int .i64 (N : Int), .int .i64 (k : Int), u16, u17, u18, u19, u20, u21, u22, u23, u24, undef], []⟩) ?_ N _ _ ⟨0, _, _, _, _, _, _, _, _, _, _, rfl, Nat.zero_le _, by simpa using HL, rfl⟩
  clear HL
  rintro n b w ⟨k, u5, u16, u17, u18, u19, u20, u21, u22, u23, u24, rfl, hk, HL, rfl⟩
  by_cases hlt : k < N
  · obtain ⟨d, hd⟩ : ∃ d, l[k]? = some d := ⟨_, List.getElem?_eq_getElem (by rw [HN.out]; exact hlt)⟩
    have HT : Hid (l.take k ++ [d] = l.take (k + 1)) := by show _ = _; rw [List.take_add_one, hd]; rfl
    have HRm : Hid ((l.take k).length < room) := by show _ < _; rw [List.length_take]; have := HRl.out; omega
    obtain ⟨g, o, cur, ea, hB, hrow⟩ := HL.out.ol.ty (by omega)
    subst ea
    obtain ⟨e0, e1⟩ := dl_cells HL.out.ol hd
    obtain ⟨dm, dd⟩ := d
    dsimp only at e0 e1
    have HKe : Hid (N - (k + 1) < N - k) := (by omega : N - (k + 1) < N - k)
    have HKl : Hid (k + 1 ≤ N) := hlt
    have hlt2 : (k : Int) < (N : Int) := by omega
    have hk4 : (k : Int) < 4 := by omega
    have hb : Below w.heap.size w (w.alloc (.cells #[.int .i64 0, .string ⟨#[]⟩] 43)) := (Below.refl _ _).alloc (Nat.le_refl _) _
    have HQ2 : Hid (Qp W (w.alloc (.cells #[.int .i64 0, .string ⟨#[]⟩] 43)) p c room l (l.take k) p2 c2 (some ⟨g, o, none⟩) N) := HL.out.on hb
    have HR2 : Hid (RowT 43 (w.alloc (.cells #[.int .i64 0, .string ⟨#[]⟩] 43)) w.heap.size #[.int .i64 0, .string ⟨#[]⟩]) := RowT.new _ w _
    have HA2 : Hid (w.heap.size ≠ p ∧ w.heap.size ≠ c ∧ w.heap.size ≠ p2 ∧ w.heap.size ≠ c2 ∧ ∀ x, Sg.At_ (some ⟨g, o, none⟩) N x → x ≠ w.heap.size) := HL.out.lt (Nat.le_refl _)
    have HG2 : Hid (W.heap.size ≤ w.heap.size) := HL.out.kept.size
    clear hd hB hrow hb HL hk
    refine Vn.seq (Vn.of_wp ?_) -- n1_
    go_wp2_with fail
    refine Vn.seq (Vn.of_wp ?_) -- n2_
    go_wp2_with fail
    refine Vn.seq (Vn.block ?_) -- n3_
    refine Vn.seq (Vn.of_wp ?_) -- n4_
    go_wp2_with (refine wpList_store_row (P := Try.prog) rfl 43 (.tmp 5) (.tmp 18) rfl _ #[.int .i64 dm, .string dd] rfl rfl 43 _ HR2.out dinfo rfl (by simp [Value.oneCell']) ?_)
    have HQ3 : Hid (Qp W ((w.alloc (.cells #[.int .i64 0, .string ⟨#[]⟩] 43)).setRow w.heap.size #[.int .i64 dm, .string dd]) p c room l (l.take k) p2 c2 (some ⟨g, o, none⟩) N) := HQ2.out.kept' (setRow_kept _ _ _) (q := w.heap.size) (fun x e => e) HG2.out HA2.out
    have HR3 : Hid (RowT 43 ((w.alloc (.cells #[.int .i64 0, .string ⟨#[]⟩] 43)).setRow w.heap.size #[.int .i64 dm, .string dd]) w.heap.size #[.int .i64 dm, .string dd]) := setRow_heap _ _ _ _ _ _ HR2.out
    clear HQ2 HR2 e0 e1 HA2 HG2
    dsimp only [Act.put]
    generalize (w.alloc (.cells #[.int .i64 0, .string ⟨#[]⟩] 43)).setRow w.heap.size #[.int .i64 dm, .string dd] = w5 at HQ3 HR3 ⊢
    generalize w.heap.size = q at HR3 ⊢
    refine Vn.region_last 5 rfl (by kernel_rfl) (by kernel_rfl) ?_
    intro w6 hw6
    have HQ6 : Hid (Qp W w6 p c room l (l.take k) p2 c2 (some ⟨g, o, none⟩) N) := by rw [hw6]; exact HQ3.out.on (Below.refl _ _).drew
    have HR6 : RowT 43 w6 q #[.int .i64 dm, .string dd] := by rw [hw6]; exact HR3.out.on (Below.refl _ _).drew
    clear hw6 HQ3 HR3
    have c0 := HQ6.out.q2.row.c 2 _ rfl
    have e0 := HR6.c 0 _ rfl
    have e1 := HR6.c 1 _ rfl
    clear HR6
    simp only [List.take_succ_cons, List.take_zero]
    repeat still_step
    refine wpStill_nil ?_
    obtain ⟨sn6, rn6, hc6⟩ := HQ6.out.q2.ch
    have hroom : (bufV (l.take k)).size < room := by rw [bufV_size]; exact HRm.out
    have HZ : Hid (Qp W (w6.setChan c2 room ((bufV (l.take k)).push (dV ⟨dm, dd⟩)) false (sn6 + 1) rn6 false) p c room l (l.take (k + 1)) p2 c2 (some ⟨g, o, none⟩) N) := by
      show Qp _ _ _ _ _ _ _ _ _ _ _
      rw [bufV_push, HT.out]
      exact HQ6.out.put _ _ _
    clear HQ6 c0 e0 e1 HRm HT
    refine Vn.Op1.send (v := dV ⟨dm, dd⟩) (z' := .tuple #[]) rfl rfl (by simp [go_sem, execOp, Conc.scase, Act.eval]) hc6 hroom ?_
    dsimp only [Act.put]
    simp only [Exit.then, Exit.inBlock]
    clear hc6 hroom
    refine Vn.of_wp ?_
    go_wp2_with fail
    exact ⟨_, HKe.out, k + 1, _, _, _, _, _, _, _, _, _, _, rfl, HKl.out, HZ, rfl⟩
  · obtain rfl : k = N := by omega
    have hgt : ¬ ((k : Int) < (k : Int)) := by omega
    have HZ : Hid (Qc 0 w p c room l ∧ Qc 0 w p2 c2 room l ∧ W.heap.size ≤ p2 ∧ W.heap.size ≤ c2 ∧ Kept (fun g => g = p ∨ g = c) W w) := by
      have h := HL.out
      have e1 : l.take k = l := by rw [← HN.out, List.take_length]
      have h2 := h.q2
      rw [e1] at h2
      exact ⟨h.q, h2, h.new.1, h.new.2, h.kept⟩
    clear HL hl4 hlt
    refine Vn.seq (Vn.of_wp ?_)
    go_wp2_with fail
    refine Vn.of_wp ?_
    go_wp2_with fail
    refine Vn.of_wp ?_
    go_wp2_with fail
    exact bodyPost_ret (results_tmp rfl _ _ _) rfl ⟨p2, rfl, HZ.out.1, c2, HZ.out.2⟩
theorem qk_copy (w : World) (p : Nat) (F : Nat → Prop) (s : Vq.St) (h : QueueAt w p F s) : Calls Try.prog 28 #[Ob.ptr p] w fun e w' => ∃ q F' G, e = .returned (Ob.ptr q) ∧ QueueAt w' p F' s ∧ QueueAt w' q G s ∧ (∀ g, F' g → F g ∨ w.heap.size ≤ g) ∧ (∀ g, G g → w.heap.size ≤ g) ∧ (∀ g, F' g → ¬ G g) ∧ Kept F w w' := by
  obtain ⟨c, hF, hq, hO⟩ := h
  have hl := hq.lt
  refine (qk_copy0 w p c s.room s.l hq hO).mono ?_
  rintro e w' ⟨q, c2, rfl, h1, h2, h3, h4, h5⟩
  refine ⟨q, F, fun g => g = q ∨ g = c2, rfl, ⟨c, hF, h1, hO⟩, ⟨c2, fun g => Iff.rfl, h2, hO⟩, fun g hg => Or.inl hg, fun g hg => by rcases hg with rfl | rfl <;> assumption, fun g hg hg2 => ?_, h5.mono (fun g e => (hF g).2 e)⟩
  have := (hF g).1 hg
  rcases hg2 with e | e <;> omega
theorem queueSpec : QueueSpec QueueAt where
  is := queue_is
  ok := fun ⟨_, _, _, h⟩ => h
  new := qk_new
  put := fun w p F s m d _ h => qk_put w p F s m d h
  take := qk_take
  head := qk_head
  len := qk_len
  all := qk_all
  copy := qk_copy
end Go.Proofs.Ytkgeknkppnadfaa
