/- Package queue, landed: all that waits: each one is taken, told and put back behind the others. -/
import Derived.Test.YtkgeknkppnadfaaVp
import Derived.Test.YtkgeknkppnadfaaVr
import Derived.Test.YtkgeknkppnadfaaSj
import Derived.Laws.MakeOwn
import Derived.OwnWalk
namespace Go.Proofs.Ytkgeknkppnadfaa
open Go.RowKit Go.WideShapes
set_option linter.unusedVariables false
theorem elD : Sg.El Try.prog 47 43 2 (.agg #[.int .i64 0, .string ⟨#[]⟩]) 24 := ⟨Try.underlying47, by kernel_rfl, rfl, by decide⟩
theorem dC_one (t : Vq.Dl) : ∀ u ∈ dC t, u.oneCell' = true := fun u hu => by
  simp only [dC, List.mem_cons, List.not_mem_nil, or_false] at hu
  rcases hu with rfl | rfl <;> rfl
theorem made_dl (n : Nat) (hn : n ≤ 4) : madeCells #[.int .i64 0, .string ⟨#[]⟩] (n * 2) = ((List.replicate n Vq.Dl.no).flatMap dC).toArray := by
  obtain rfl | rfl | rfl | rfl | rfl : n = 0 ∨ n = 1 ∨ n = 2 ∨ n = 3 ∨ n = 4 := by omega
  · kernel_rfl
  · kernel_rfl
  · kernel_rfl
  · kernel_rfl
  · kernel_rfl
theorem make_dl (n : Nat) (hn : n ≤ 4) (W : World) : (Instr.makeSlice 47 (.int .i64 (n : Int)) (.int .i64 (n : Int))).run Try.prog W = .ok (.slice (some ⟨W.heap.size, 0, none⟩) n n) (W.alloc (.cells ((List.replicate n Vq.Dl.no).flatMap dC).toArray 43)) := by
  obtain ⟨i0, hi, hz0, hz1, hz2⟩ := info_parts elD.info
  have h := run_make (P := Try.prog) W 47 43 i0 (.agg #[.int .i64 0, .string ⟨#[]⟩]) elD.und hi hz0 .i64 .i64 (n : Int) (n : Int) (by omega) (Int.le_refl _) (by rw [hz2]; omega) (by omega)
  rw [h]
  simp only [Int.toNat_natCast, hz1]
  rw [← made_dl n hn]
  rfl
/-- A list that lies in a block of its own, all of it. -/
theorem ol_dl {T : TypeId} {B : Nat} {w : World} {g : Nat} {l : List Vq.Dl} (h : RowT T w g (l.flatMap dC).toArray) (hl : l.length ≤ 4) (hB : B ≤ g) : Sg.OL T 2 B w (some ⟨g, 0, none⟩) l.length l.length (l.flatMap dC) := by
  have e : (l.flatMap dC).length = l.length * 2 := by
    clear h
    induction l with
    | nil => rfl
    | cons x l ih => rw [List.flatMap_cons, List.length_append, ih (by simp at hl; omega)]; simp [dC]; omega
  refine ⟨⟨Nat.le_refl _, by unfold maxLen; omega, e, Or.inr ⟨g, 0, rfl, h.lt, fun k v hk => ?_, fun j hj => ⟨?_, ?_⟩⟩⟩, fun _ => ⟨g, 0, _, rfl, hB, h⟩⟩
  · rw [Nat.zero_add]
    exact h.c k v (by rw [List.getElem?_toArray]; exact hk)
  · obtain ⟨v, hv⟩ : ∃ v, (l.flatMap dC)[j]? = some v := ⟨_, List.getElem?_eq_getElem (by rw [e]; omega)⟩
    rw [Nat.zero_add, h.c j v (by rw [List.getElem?_toArray]; exact hv)]
    rfl
  · exact h.f _
/-- While all is told: what the channel holds, what the list. -/
structure Ql (W w : World) (p c room : Nat) (F : Nat → Prop) (b t : List Vq.Dl) (N g o : Nat) : Prop where
  q : Qc 1 w p c room b
  ol : Sg.OL 43 2 W.heap.size w (some ⟨g, o, none⟩) N N (t.flatMap dC)
  kept : Kept F W w
  own : ∀ g, F g ↔ g = p ∨ g = c
  old : p < W.heap.size ∧ c < W.heap.size
section
variable {W w w' : World} {p c room N g o : Nat} {F : Nat → Prop} {b b' t t' : List Vq.Dl}
theorem Ql.on (h : Ql W w p c room F b t N g o) (hb : Below w.heap.size w w') : Ql W w' p c room F b t N g o :=
  ⟨h.q.on hb, h.ol.on hb, h.kept.trans (Kept.of_below (F := fun _ => False) hb) (fun g hg => hg.elim), h.own, h.old⟩
theorem Ql.new (h : Ql W w p c room F b t N g o) : ∀ x, Sg.At_ (some ⟨g, o, none⟩) N x → W.heap.size ≤ x := fun x hx => by
  obtain ⟨g', o', cur, e1, hB, hh⟩ := h.ol.ty hx.1
  have h2 := hx.2
  rw [e1] at h2
  injection h2 with h2
  dsimp only at h2
  omega
theorem Ql.chan (h : Ql W w p c room F b t N g o) (b' : List Vq.Dl) (sn rn : Nat) : Ql W (w.setChan c room (bufV b') false sn rn false) p c room F b' t N g o := by
  have hk := setChan_kept w c room (bufV b') false sn rn false
  refine ⟨h.q.put b' sn rn, h.ol.kept hk (fun x hx e => ?_), h.kept.trans hk (fun x e => Or.inl ((h.own x).2 (Or.inr e))), h.own, h.old⟩
  have := h.new x hx
  have := h.old.2
  omega
theorem Ql.laid (h : Ql W w p c room F b t N g o) (hk : Kept (Sg.At_ (some ⟨g, o, none⟩) N) w w') (h2 : Sg.OL 43 2 W.heap.size w' (some ⟨g, o, none⟩) N N (t'.flatMap dC)) : Ql W w' p c room F b t' N g o := by
  have ⟨h3, h4⟩ := h.old
  exact ⟨h.q.kept hk (fun e => by have := h.new _ e; omega) (fun e => by have := h.new _ e; omega), h2, h.kept.trans hk (fun x hx => Or.inr (h.new x hx)), h.own, h.old⟩
end
theorem take_rep {l : List Vq.Dl} {k N : Nat} {d : Vq.Dl} (hN : l.length = N) (hd : l[k]? = some d) :
    ((l.take k ++ List.replicate (N - k) Vq.Dl.no).flatMap dC).take (k * 2) ++ (#[.int .i64 d.msg, .string d.data] : Array Value).toList ++ ((l.take k ++ List.replicate (N - k) Vq.Dl.no).flatMap dC).drop (k * 2 + 2) = (l.take (k + 1) ++ List.replicate (N - (k + 1)) Vq.Dl.no).flatMap dC := by
  have hlt : k < l.length := (List.getElem?_eq_some_iff.1 hd).1
  obtain ⟨m, hm⟩ : ∃ m, N - k = m + 1 := ⟨N - k - 1, by omega⟩
  have hm2 : N - (k + 1) = m := by omega
  have e2 : (l.take k).length = k := by rw [List.length_take]; omega
  rw [hm, hm2, List.take_add_one, hd]
  generalize l.take k = A at e2 ⊢
  have e3 := Sg.flat_at (f := dC) (sz := 2) (fun _ => rfl) (A ++ List.replicate m Vq.Dl.no) k Vq.Dl.no d (by rw [List.length_append]; omega)
  rw [List.take_left' e2, List.drop_left' e2] at e3
  rw [List.replicate_succ]
  refine e3.trans ?_
  simp
theorem dl_cells {w : World} {B g o N k : Nat} {T : TypeId} {t : List Vq.Dl} {d : Vq.Dl} (h : Sg.OL T 2 B w (some ⟨g, o, none⟩) N N (t.flatMap dC)) (hd : t[k]? = some d) : w.cell? ⟨g, o + k * 2, none⟩ = some (.int .i64 d.msg) ∧ w.cell? ⟨g, o + k * 2 + 1, none⟩ = some (.string d.data) := by
  have e : ∀ j, j < 2 → (t.flatMap dC)[k * 2 + j]? = (dC d)[j]? := fun j hj => by
    have hk := (List.getElem?_eq_some_iff.1 hd).1
    have h1 : (t.flatMap dC).drop (k * 2) = (t.drop k).flatMap dC := (Sg.flat_drop (f := dC) (sz := 2) (fun _ => rfl) t k).symm
    have h2 : (t.flatMap dC)[k * 2 + j]? = ((t.flatMap dC).drop (k * 2))[j]? := by rw [List.getElem?_drop]
    have h3 : t.drop k = d :: t.drop (k + 1) := by rw [List.drop_eq_getElem_cons hk]; rw [List.getElem?_eq_getElem hk] at hd; injection hd with hd; rw [hd]
    rw [h2, h1, h3, List.flatMap_cons, List.getElem?_append_left (by simpa [dC] using hj)]
  have h0 := h.cells (k * 2) (.int .i64 d.msg) ((e 0 (by omega)).trans rfl)
  have h1 := h.cells (k * 2 + 1) (.string d.data) ((e 1 (by omega)).trans rfl)
  exact ⟨h0, h1⟩
set_option maxRecDepth 100000 in
set_option maxHeartbeats 4000000 in
theorem qk_all0 (W : World) (p c room : Nat) (l : List Vq.Dl) (hq : Qc 0 W p c room l) (hO : Vq.Ok ⟨room, l⟩) : Calls Try.prog 45 #[Ob.ptr p] W fun e w' => ∃ a, e = .returned (.slice a l.length l.length) ∧ Sg.OL 43 2 W.heap.size w' a l.length l.length (l.flatMap dC) ∧ Qc 0 w' p c room l ∧ Kept (fun g => g = p ∨ g = c) W w' := by
  have hold := hq.lt
  have HO : Hid (Vq.Ok ⟨room, l⟩) := hO
  have hl4 : l.length ≤ 4 := by obtain ⟨_, h1, h2⟩ := hO; exact Nat.le_trans h2 h1
  have HQ : Hid (Qc 0 W p c room l) := hq
  clear hO hq
  refine Vn.callsD Try.func45 rfl ?_
  simp only [Try.ntmps45, List.size_toArray, List.length_cons, List.length_nil, Nat.reduceAdd, Nat.reduceSub, Array.replicate_succ, Array.replicate_zero, List.push_toArray, List.append_toArray, List.nil_append, List.cons_append]
  refine Vn.seq (Vn.of_wp ?_)
  go_wp2_with fail
  refine Vn.seq (Vn.of_wp ?_)
  go_wp2_with (go_at_call 46; refine (q_lock HQ.out).mono ?_; rintro e w1 ⟨rfl, hq1, hk1⟩)
  have HQ1 : Hid (Qc 1 w1 p c room l) := hq1
  have HK1 : Hid (Kept (fun g => g = p ∨ g = c) W w1) := hk1.mono (fun g e => Or.inl e)
  obtain ⟨sn, rn, hc⟩ := hq1.ch
  have c0 := hq1.row.c 2 _ rfl
  have hln := len_chan 3 hc
  rw [bufV_size] at hln
  have HN : Hid (l.length = l.length) := rfl
  revert HN
  generalize hNe : l.length = N at hl4 hln ⊢
  intro _
  have HN : Hid (l.length = N) := hNe
  clear hNe
  have hmk : ∀ V : World, (Instr.makeSlice 47 (.int .i64 (N : Int)) (.int .i64 (N : Int))).run Try.prog V = .ok (.slice (some ⟨V.heap.size, 0, none⟩) N N) (V.alloc (.cells ((List.replicate N Vq.Dl.no).flatMap dC).toArray 43)) := fun V => make_dl N hl4 V
  have HL : Hid (Ql W (w1.alloc (.cells ((List.replicate N Vq.Dl.no).flatMap dC).toArray 43)) p c room (fun g => g = p ∨ g = c) l (List.replicate N Vq.Dl.no) N w1.heap.size 0) := by
    have hb : Below w1.heap.size w1 (w1.alloc (.cells ((List.replicate N Vq.Dl.no).flatMap dC).toArray 43)) := (Below.refl _ _).alloc (Nat.le_refl _) _
    have ho := ol_dl (B := W.heap.size) (RowT.new 43 w1 ((List.replicate N Vq.Dl.no).flatMap dC).toArray) (by rw [List.length_replicate]; exact hl4) HK1.out.size
    rw [List.length_replicate] at ho
    exact ⟨HQ1.out.on hb, ho, HK1.out.trans (Kept.of_below (F := fun _ => False) hb) (fun g hg => hg.elim), fun g => Iff.rfl, hold⟩
  clear HQ hq1 hk1 hc HQ1
  refine Vn.seq (Vn.of_wp ?_)
  go_wp2_with fail
  refine Vn.seq (Vn.of_wp ?_)
  go_wp2_with fail
  generalize w1.alloc (.cells ((List.replicate N Vq.Dl.no).flatMap dC).toArray 43) = w2 at HL ⊢
  generalize w1.heap.size = g at HL ⊢
  clear c0 hln hmk HK1
  refine Vn.seq ?_
  refine Vn.seq (Vn.of_wp ?_)
  go_wp2_with fail
  refine Vn.block ?_
  refine Vn.loop (fun n a w => ∃ (k g o : Nat) (u4 u21 u22 u23 u24 u25 u26 u27 u28 u29 u30 u31 u32 u33 u34 u35 u36 u37 u38 u39 : Value), n = N - k ∧ k ≤ N ∧ Hid (Ql W w p c room (fun g => g = p ∨ g = c) (l.drop k ++ l.take k) (l.take k ++ List.replicate (N - k) Vq.Dl.no) N g o) ∧ a = ⟨#[Ob.ptr p, undef, .slice none 0 0, .slice (some ⟨g, o, none⟩) N N, u4, Ob.ptr p, Ob.ptr p, Ob.ptr p, .tuple #[], Ob.ptr p, Ob.ptr p, Ob.ptr p, Ob.ptr p, Ob.ptr p, .pointer (some ⟨p, 2, none⟩), .chan (some c), .int .i64 (N : Int), .slice (some ⟨g, o, none⟩) N N, .slice (some ⟨g, o, none⟩) N N, .int .i64 (N : Int), .int .i64 (k : Int), u21, u22, u23, u24, u25, u26, u27, u28, u29, u30, u31, u32, u33, u34, u35, u36, u37, u38, u39, undef], [⟨.fn (.func 47) #[], #[Ob.ptr p]⟩]⟩) ?_ N _ _ ⟨0, g, 0, _, _, _, _, _, _, _, _, _, _, _, _, _, _, _, _, _, _, _, _, rfl, Nat.zero_le _, by simpa using HL, rfl⟩
  clear HL
  rintro n a w ⟨k, g, o, u4, u21, u22, u23, u24, u25, u26, u27, u28, u29, u30, u31, u32, u33, u34, u35, u36, u37, u38, u39, rfl, hk, HL, rfl⟩
  by_cases hlt : k < N
  · obtain ⟨d, hd⟩ : ∃ d, l[k]? = some d := ⟨_, List.getElem?_eq_getElem (by rw [HN.out]; exact hlt)⟩
    have hdr : l.drop k = d :: l.drop (k + 1) := by rw [List.drop_eq_getElem_cons (by rw [HN.out]; exact hlt)]; rw [List.getElem?_eq_getElem (by rw [HN.out]; exact hlt)] at hd; injection hd with hd; rw [hd]
    have htk : l.take (k + 1) = l.take k ++ [d] := by rw [List.take_add_one, hd]; rfl
    have HT : Hid (l.drop (k + 1) ++ l.take k ++ [d] = l.drop (k + 1) ++ l.take (k + 1)) := by show _ = _; rw [htk, List.append_assoc]
    have HP := take_rep HN.out hd
    have HPh : Hid (((l.take k ++ List.replicate (N - k) Vq.Dl.no).flatMap dC).take (k * 2) ++ (#[.int .i64 d.msg, .string d.data] : Array Value).toList ++ ((l.take k ++ List.replicate (N - k) Vq.Dl.no).flatMap dC).drop (k * 2 + 2) = (l.take (k + 1) ++ List.replicate (N - (k + 1)) Vq.Dl.no).flatMap dC) := HP
    have HLn : Hid (k * 2 + 2 ≤ ((l.take k ++ List.replicate (N - k) Vq.Dl.no).flatMap dC).length) := by
      show _ ≤ _
      rw [Sg.len_flatS (f := dC) (sz := 2) (fun _ => rfl), List.length_append, List.length_take, List.length_replicate, HN.out]
      omega
    have HRm : Hid ((l.drop (k + 1) ++ l.take k).length < room) := (by rw [List.length_append, List.length_drop, List.length_take, HN.out]; obtain ⟨_, h1, h2⟩ := HO.out; dsimp only at h1 h2; rw [HN.out] at h2; omega : (l.drop (k + 1) ++ l.take k).length < room)
    have HTk : Hid ((l.take (k + 1) ++ List.replicate (N - (k + 1)) Vq.Dl.no)[k]? = some d) := by
      show _ = _
      rw [List.getElem?_append_left (by rw [List.length_take, HN.out]; omega), List.getElem?_take, if_pos (by omega), hd]
    obtain ⟨sn, rn, hc⟩ := HL.out.q.ch
    have c0 := HL.out.q.row.c 2 _ rfl
    rw [hdr, List.cons_append] at hc
    have HQ2 : Hid (Ql W (w.setChan c room (bufV (l.drop (k + 1) ++ l.take k)) false sn (rn + 1) false) p c room (fun g => g = p ∨ g = c) (l.drop (k + 1) ++ l.take k) (l.take k ++ List.replicate (N - k) Vq.Dl.no) N g o) := HL.out.chan _ sn (rn + 1)
    have HKe : Hid (N - (k + 1) < N - k) := (by omega : N - (k + 1) < N - k)
    have HKl : Hid (k + 1 ≤ N) := hlt
    have hlt2 : (k : Int) < (N : Int) := by omega
    have hk4 : (k : Int) < 4 := by omega
    have hN0 : 0 < N := by omega
    clear HL hdr htk hd HP hk
    obtain ⟨dm, dd⟩ := d
    generalize l.drop (k + 1) ++ l.take k = B at hc HQ2 HT HRm ⊢
    generalize l.take k ++ List.replicate (N - k) Vq.Dl.no = T0 at HQ2 HPh HLn ⊢
    generalize hT1 : l.take (k + 1) ++ List.replicate (N - (k + 1)) Vq.Dl.no = T1 at HPh HTk
    have HT1 : Hid (l.take (k + 1) ++ List.replicate (N - (k + 1)) Vq.Dl.no = T1) := hT1
    clear hT1
    refine Vn.seq (Vn.of_wp ?_) -- m1_
    go_wp2_with fail
    refine Vn.seq (Vn.of_wp ?_) -- m2_
    go_wp2_with fail
    refine Vn.seq (Vn.block ?_) -- m3_
    refine Vn.seq (Vn.of_wp ?_) -- m4_
    go_wp2_with fail
    refine Vn.seq (Vn.region [0, 1, 2, 3, 4, 5, 6, 7, 8] rfl ?_) -- m5_
    refine Vn.Reg.val (v := .slice (some ⟨g, o, none⟩) N N) (w1 := w) rfl rfl (by go_simp) ?_ -- m6_
    dsimp only [Act.put]
    refine Vn.Reg.val (v := .int .i64 (k : Int)) (w1 := w) rfl rfl (by go_simp) ?_ -- m7_
    dsimp only [Act.put]
    refine Vn.Reg.val (v := Ob.ptr p) (w1 := w) rfl rfl (by go_simp) ?_ -- m8_
    dsimp only [Act.put]
    refine Vn.Reg.val (v := Ob.ptr p) (w1 := w) rfl rfl (by go_simp) ?_ -- m9_
    dsimp only [Act.put]
    refine Vn.Reg.val (v := .pointer (some ⟨p, 2, none⟩)) (w1 := w) rfl rfl (by go_simp) ?_ -- m10_
    dsimp only [Act.put]
    refine Vn.Reg.val (v := .chan (some c)) (w1 := w) rfl rfl (by go_simp) ?_ -- m11_
    dsimp only [Act.put]
    refine Vn.Reg.recv false (c := c) (z := .agg #[.int .i64 0, .string ⟨#[]⟩]) rfl rfl (by simp [go_sem, execOp, Conc.rcase, Act.eval]) hc (by rw [bufV_size]; simp) ?_ -- m12_
    rw [bufV_head, bufV_tail]
    simp only [List.tail_cons, Conc.got, Bool.false_eq_true, if_false]
    simp only [Act.put, List.getElem_toArray, List.getElem_cons_succ, List.getElem_cons_zero]
    clear c0 hc
    generalize w.setChan c room (bufV B) false sn (rn + 1) false = w2 at HQ2 ⊢
    refine Vn.Reg.val (v := .pointer (some ⟨g, o + k * 2, none⟩)) (w1 := w2) rfl rfl (by go_simp) ?_ -- m13_
    simp only [Act.put, List.getElem_toArray, List.getElem_cons_succ, List.getElem_cons_zero]
    simp only [List.setIfInBounds_toArray]
    refine Vn.Reg.tail 8 1 rfl ?_ -- m14_
    simp only [List.drop_succ_cons, List.drop_zero]
    have HO2 : Hid (Sg.OL 43 2 W.heap.size w2 (some ⟨g, o, none⟩) N N (T0.flatMap dC)) := HQ2.out.ol
    refine Sg.wpList_storeOwn (P := Try.prog) (cs := #[.int .i64 dm, .string dd]) elD (p := k * 2) (x := .tmp 30) (y := .tmp 29) rfl rfl ?_ ?_ HO2.out hN0 rfl HLn.out (dC_one ⟨dm, dd⟩) ?_
    · go_simp
    · go_simp
    intro u5 h5 hk5
    have HQ5 : Hid (Ql W u5 p c room (fun g => g = p ∨ g = c) B T1 N g o) := HQ2.out.laid hk5 (by rw [← HPh.out]; exact h5)
    clear h5 hk5 HO2 HQ2
    go_wp2_with fail -- m15_
    refine Vn.region_last 8 rfl (by kernel_rfl) (by kernel_rfl) ?_
    intro w6 hw6
    have HQ6 : Hid (Ql W w6 p c room (fun g => g = p ∨ g = c) B T1 N g o) := by rw [hw6]; exact HQ5.out.on (Below.refl _ _).drew
    clear hw6 HQ5
    have c0 := HQ6.out.q.row.c 2 _ rfl
    obtain ⟨e0, e1⟩ := dl_cells HQ6.out.ol HTk.out
    dsimp only at e0 e1
    simp only [List.take_succ_cons, List.take_zero]
    repeat still_step
    refine wpStill_nil ?_
    obtain ⟨sn6, rn6, hc6⟩ := HQ6.out.q.ch
    have hroom : (bufV B).size < room := by rw [bufV_size]; exact HRm.out
    have HZ : Hid (Ql W (w6.setChan c room ((bufV B).push (dV ⟨dm, dd⟩)) false (sn6 + 1) rn6 false) p c room (fun g => g = p ∨ g = c) (l.drop (k + 1) ++ l.take (k + 1)) (l.take (k + 1) ++ List.replicate (N - (k + 1)) Vq.Dl.no) N g o) := by
      show Ql _ _ _ _ _ _ _ _ _ _ _
      rw [bufV_push, HT.out, HT1.out]
      exact HQ6.out.chan _ _ _
    clear HQ6 c0 e0 e1 HRm HT HTk HT1 HPh HLn
    refine Vn.Op1.send (v := dV ⟨dm, dd⟩) (z' := .tuple #[]) rfl rfl (by simp [go_sem, execOp, Conc.scase, Act.eval]) hc6 hroom ?_
    dsimp only [Act.put]
    simp only [Exit.then, Exit.inBlock]
    clear hc6 hroom
    refine Vn.of_wp ?_
    go_wp2_with fail
    refine ⟨_, HKe.out, k + 1, rfl, HKl.out, g, o, HZ, ?_⟩
    exact ⟨_, _, _, _, _, _, _, _, _, _, _, _, _, _, _, _, _, _, _, _, rfl⟩
  · obtain rfl : k = N := by omega
    have hgt : ¬ ((k : Int) < (k : Int)) := by omega
    have HZ : Hid (Sg.OL 43 2 W.heap.size w (some ⟨g, o, none⟩) k k (l.flatMap dC) ∧ Qc 1 w p c room l ∧ Kept (fun g => g = p ∨ g = c) W w ∧ ∀ x, Sg.At_ (some ⟨g, o, none⟩) k x → ¬ x = p) := by
      have h := HL.out
      have e1 : l.take k = l := by rw [← HN.out, List.take_length]
      have e2 : l.drop k = [] := by rw [← HN.out, List.drop_length]
      refine ⟨by have := h.ol; rwa [Nat.sub_self, e1, List.replicate_zero, List.append_nil] at this, by have := h.q; rwa [e1, e2, List.nil_append] at this, h.kept, fun x hx e => ?_⟩
      have := h.new x hx
      have := h.old.1
      omega
    clear HL hl4 HO hlt
    refine Vn.seq (Vn.of_wp ?_)
    go_wp2_with fail
    refine Vn.of_wp ?_
    go_wp2_with fail
    refine Vn.of_wp ?_
    go_wp2_with fail
    refine q_leave HZ.out.2.1 fun w3 h3 k3 => ⟨_, results_tmp rfl _ _ _, some ⟨g, o, none⟩, rfl, HZ.out.1.kept k3 (fun x hx => HZ.out.2.2.2 x hx), h3, HZ.out.2.2.1.trans k3 (fun x e => Or.inl (Or.inl e))⟩
end Go.Proofs.Ytkgeknkppnadfaa
