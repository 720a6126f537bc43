/- Package object, landed: all that is asked of it. -/
import Derived.Test.YtkgeknkppnadfaaUo
namespace Go.Proofs.Ytkgeknkppnadfaa
open Go.RowKit Go.WideShapes
set_option linter.unusedVariables false
set_option maxRecDepth 100000
set_option maxHeartbeats 4000000 in
theorem oj_sent (V w : World) (p : Nat) (F : Nat → Prop) (s : Q18.St) (k : Int) (hk : (Lit.int .i64 k).wf = true) (h : ObjectAt V w p F s) : Ob.Turns Try.prog (ObjectAt V) 13 #[Ob.ptr p, .int .i64 k] w p F (Q18.sentS s k) (.tuple #[]) := by
  obtain ⟨a, c, b1, b2, q, H, hF, hx⟩ := h
  have HX : Hid (Ox V w p s a c b1 b2 q H) := hx
  have HF : Hid (∀ g, F g ↔ g = p ∨ g = b1 ∨ g = b2 ∨ H g) := hF
  have HA : Hid (Ob.Turns Try.prog QueueAt 34 #[Ob.ptr q] w q H s.q (.tuple #[dV (Vq.hd s.q), .bool (decide (0 < s.q.l.length))])) := qk_head _ q H s.q hx.q
  have HT : Hid (∀ u H', QueueAt u q H' s.q → Ob.Turns Try.prog QueueAt 35 #[Ob.ptr q] u q H' (Vq.takeS s.q) (.tuple #[dV (Vq.hd s.q), .int .i64 (Vq.takeE s.q)])) := fun u H' hq => qk_take u q H' s.q hq
  obtain ⟨c0, c1, c2, c3, c4⟩ := hx.cells
  clear hF hx hk c0 c1 c2 c3
  unfold Ob.Turns at HA HT ⊢
  show Calls _ _ _ _ (fun e w' => e = _ ∧ Oz V w w' p F (Q18.sentS s k))
  unfold Q18.sentS
  generalize decide (0 < s.q.l.length) = bb at HA ⊢
  generalize Vq.takeS s.q = ts at HT ⊢
  generalize Vq.takeE s.q = te at HT
  generalize Vq.hd s.q = dd at HA HT ⊢
  obtain ⟨dm, dt⟩ := dd
  dsimp only
  generalize hif : (if (bb && dm == k) = true then ({ s with q := ts } : Q18.St) else s) = s2
  have HS2 : Hid (s2 = if (bb && dm == k) = true then ({ s with q := ts } : Q18.St) else s) := hif.symm
  clear hif
  go_enter Try.func13, Try.ntmps13
  go_upto_region 1 with (first | (go_at_call 34; refine HA.out.mono ?_; rintro e w1 ⟨rfl, H', h1, h2, h3⟩; have HR1 : Hid (RowT 43 (w1.alloc (.cells #[.int .i64 0, .string ⟨#[]⟩] 43)) w1.heap.size #[.int .i64 0, .string ⟨#[]⟩]) := RowT.new _ _ _) | (refine wpList_store_row (P := Try.prog) rfl 43 (.tmp 4) (.tmp 12) rfl w1.heap.size #[.int .i64 dm, .string dt] rfl rfl 43 _ HR1.out dinfo rfl (by simp [Value.oneCell']) ?_))
  have HRz : Hid (RowT 43 ((w1.alloc (.cells #[.int .i64 0, .string ⟨#[]⟩] 43)).setRow w1.heap.size #[.int .i64 dm, .string dt]) w1.heap.size #[.int .i64 dm, .string dt]) := setRow_heap _ _ _ _ _ _ HR1.out
  have HBz : Hid (Below w1.heap.size w1 ((w1.alloc (.cells #[.int .i64 0, .string ⟨#[]⟩] 43)).setRow w1.heap.size #[.int .i64 dm, .string dt])) := below_setRow ((Below.refl _ _).alloc (Nat.le_refl _) _) (Nat.le_refl _) _
  have HX1 : Hid (Ox V w1 p s a c b1 b2 q H') := HX.out.queue h1 h2 h3
  have HK1 : Hid (Kept H w w1 ∧ ∀ g, H' g → H g ∨ w.heap.size ≤ g) := ⟨h3, h2⟩
  clear HR1 h1 h2 h3 HA HX c4
  generalize (w1.alloc (.cells #[.int .i64 0, .string ⟨#[]⟩] 43)).setRow w1.heap.size #[.int .i64 dm, .string dt] = u at HRz HBz ⊢
  have HXu : Hid (Ox V u p s a c b1 b2 q H') := HX1.out.on HBz.out
  have HKu : Hid (Kept F w u) := (HK1.out.1.mono (fun g hg => (HF.out g).2 (by simp [hg]))).trans (Kept.of_below (F := fun _ => False) HBz.out) (fun g hg => hg.elim)
  have HHs : Hid (∀ g, H' g → H g ∨ w.heap.size ≤ g) := HK1.out.2
  clear HX1 HK1 HBz
  generalize w1.heap.size = g at HRz ⊢
  have z0 := HRz.out.c 0 _ rfl
  clear HRz
  cases bb with
  | false =>
    obtain rfl : s2 = s := HS2.out
    clear HT
    go_wp2_with fail
    go_end0
    exact ⟨rfl, HXu.out.fin HF.out HHs.out HKu.out⟩
  | true =>
    by_cases hk : dm = k
    · have hkd : (dm == k) = true := beq_iff_eq.2 hk
      have e := HS2.out
      rw [hkd] at e
      simp only [Bool.and_self, if_true] at e
      have HE : Hid (s2 = { s with q := ts }) := e
      clear e hk HS2
      obtain ⟨c0, c1, c2, c3, c4⟩ := HXu.out.cells
      have HT1 := HT.out u H' HXu.out.q
      clear c0 c1 c2 c3 HT
      go_wp2_with (go_at_call 35; refine HT1.mono ?_; rintro e w2 ⟨rfl, H2, h1, h2, h3⟩)
      go_end0
      rw [HE.out]
      refine ⟨rfl, (HXu.out.queue h1 h2 h3).fin HF.out (fun g hg => (h2 g hg).elim (HHs.out g) (fun k => Or.inr (Nat.le_trans HKu.out.size k))) (HKu.out.trans h3 (fun g hg => (HHs.out g hg).imp (fun k => (HF.out g).2 (by simp [k])) id))⟩
    · have hkd : (dm == k) = false := beq_eq_false_iff_ne.2 hk
      have e := HS2.out
      rw [hkd] at e
      simp only [Bool.and_false, Bool.false_eq_true, if_false] at e
      obtain rfl := e
      clear hk HS2 HT
      go_wp2_with fail
      go_end0
      exact ⟨rfl, HXu.out.fin HF.out HHs.out HKu.out⟩
theorem Mw.Is.on {w w' : World} {b : Nat} {D : Q18.Da} (h : Mw.Is w b D) (hb : Below w.heap.size w w') : Mw.Is w' b D := h.same (hb.block _ h.lt)
theorem Ox.made {w1 w2 : World} {l : List Mx.Msg} {a : Option Addr} {c q : Nat} {H : Nat → Prop} (who : Int) (hl : l.length ≤ 1000) (hL : LI w1 a c l.length (l.flatMap mC2)) (hq : QueueAt w2 q H ⟨4, []⟩) (hqn : ∀ g, H g → ((w1.alloc (.map #[] 0)).alloc (.map #[] 0)).heap.size ≤ g) (hb : Below ((w1.alloc (.map #[] 0)).alloc (.map #[] 0)).heap.size ((w1.alloc (.map #[] 0)).alloc (.map #[] 0)) w2) : Ox w1 (w2.alloc (.cells #[.int .i64 who, .slice a l.length c, .map (some w1.heap.size), .map (some (w1.heap.size + 1)), Ob.ptr q] 73)) w2.heap.size (Q18.mk l who) a c w1.heap.size (w1.heap.size + 1) q H ∧ Below w1.heap.size w1 (w2.alloc (.cells #[.int .i64 who, .slice a l.length c, .map (some w1.heap.size), .map (some (w1.heap.size + 1)), Ob.ptr q] 73)) := by
  have hsz : ((w1.alloc (.map #[] 0)).alloc (.map #[] 0)).heap.size = w1.heap.size + 2 := by simp
  have hs1 : (w1.alloc (.map #[] 0)).heap.size = w1.heap.size + 1 := by simp
  have b0 : Below w1.heap.size w1 (w1.alloc (.map #[] 0)) := (Below.refl _ _).alloc (Nat.le_refl _) _
  have b1 : Below (w1.alloc (.map #[] 0)).heap.size (w1.alloc (.map #[] 0)) ((w1.alloc (.map #[] 0)).alloc (.map #[] 0)) := (Below.refl _ _).alloc (Nat.le_refl _) _
  have b2 : Below w2.heap.size w2 (w2.alloc (.cells #[.int .i64 who, .slice a l.length c, .map (some w1.heap.size), .map (some (w1.heap.size + 1)), Ob.ptr q] 73)) := (Below.refl _ _).alloc (Nat.le_refl _) _
  have h1 := Mw.Is.made w1 l.length
  have h2 := Mw.Is.made (w1.alloc (.map #[] 0)) l.length
  rw [hs1] at h2
  have hz := hb.size
  refine ⟨⟨RowT.new _ _ _, (((h1.on b1).on hb).on b2), (h2.on hb).on b2, queue_is.on hq (fun g hg => b2.block g (queue_is.lt hq g hg)), by omega, fun g hg => ?_, Q18.ok_mk hl who, hL⟩, ?_⟩
  · have := hqn g hg
    have := queue_is.lt hq g hg
    omega
  · exact ((b0.trans (b1.mono b0.size)).trans (hb.mono (by omega))).trans (b2.mono (by omega))
theorem fld9 (w : World) (x0 x1 x2 x3 x4 x5 x6 x7 x8 x9 x10 : Value) : (Instr.field 29 (.agg #[x0, x1, x2, x3, x4, x5, x6, x7, x8, x9, x10]) 9).run Try.prog w = .ok x9 w := by kernel_rfl
theorem obinfo : (Try.prog.info? 73).map (·.size) = some 5 := by kernel_rfl
set_option maxHeartbeats 4000000 in
theorem oj_new (V w : World) (m : Mx.M) (a : Ma) (who : Int) (hb : Below V.heap.size V w) (hm : MIn V m a) (hS : Mx.Small m) (hw : (Lit.int .i64 who).wf = true) : Ob.MakesV Try.prog ObjectAt 8 #[mV m a, .int .i64 who] w (Q18.mk m.messages who) := by
  have HS : Hid (m.messages.length ≤ 1000) := hS.b
  have hal : Below w.heap.size w (w.alloc (.cells (mCs m a) 29)) := (Below.refl _ _).alloc (Nat.le_refl _) _
  have HX : Hid (Bx w (w.alloc (.cells (mCs m a) 29)) w.heap.size m a) := Bx.mk' (hm.on hb)
  have HC : Hid (Calls Try.prog 24 #[mV m a] (w.alloc (.cells (mCs m a) 29)) fun e w' => ∃ a', e = .returned (mV m a') ∧ Bk.Own3 (w.alloc (.cells (mCs m a) 29)).heap.size w' m a' ∧ Below (w.alloc (.cells (mCs m a) 29)).heap.size (w.alloc (.cells (mCs m a) 29)) w') := mk_copy _ m a ((hm.on hb).on hal) hS
  have HB : Hid (Below w.heap.size w (w.alloc (.cells (mCs m a) 29))) := hal
  obtain ⟨y0, y1, y2, y3, y4, y5, y6, y7, y8, y9, y10⟩ := HX.out.row.mat
  have hmm := @run_makeMap Try.prog
  have hf9 := fld9
  clear hb hm hS hw HX hal
  unfold Ob.MakesV
  go_enter Try.func8, Try.ntmps8
  go_upto_region 1 with fail
  generalize w.alloc (.cells (mCs m a) 29) = v at HC HB y0 y1 y2 y3 y4 y5 y6 y7 y8 y9 y10 ⊢
  go_wp2_with fail
  refine HC.out.mono ?_
  rintro e w1 ⟨a', rfl, ho, hb1⟩
  have HB1 : Hid (Below w.heap.size w w1) := HB.out.trans (hb1.mono HB.out.size)
  have HL : Hid (LI w1 a'.s2 a'.c2 m.messages.length (m.messages.flatMap mC2)) := ho.o2.sl.li
  clear HC HB ho hb1 y0 y1 y2 y3 y4 y5 y6 y7 y8 y9 y10
  simp only [mV, mCs]
  have hs1 : (w1.alloc (.map #[] 0)).heap.size = w1.heap.size + 1 := by simp
  go_wp2_with (go_at_call 25; refine (qk_new _ 4 rfl).mono ?_; rintro e w2 ⟨q, H, rfl, hq, hqn, hb2⟩)
  obtain ⟨hx, hz⟩ := Ox.made who HS.out HL.out hq hqn hb2
  have hg : ∀ g, H g → w1.heap.size ≤ g := fun g hg => by have := hqn g hg; simp at this; omega
  have hs2 : w1.heap.size ≤ w2.heap.size := by have := hb2.size; simp at this; omega
  clear hb2 hqn hq hmm hf9
  go_ret
  refine ⟨w1, w2.heap.size, _, rfl, HB1.out, hx.at_, fun g hh => ?_, hz⟩
  rcases hh with rfl | rfl | rfl | hh
  · exact hs2
  · exact Nat.le_refl _
  · exact Nat.le_succ _
  · exact hg g hh
structure Cp (V w u : World) (p : Nat) (s : Q18.St) (a : Option Addr) (c b1 b2 q : Nat) (H : Nat → Prop) (n : Nat) (v2 v3 v4 : Value) : Prop where
  ox : Ox V u p s a c b1 b2 q H
  row : RowT 73 u n #[.int .i64 s.who, .slice a s.l.length c, v2, v3, v4]
  bel : Below w.heap.size w u
  hn : w.heap.size ≤ n
  old : ∀ g, g = p ∨ g = b1 ∨ g = b2 ∨ H g → g < n
section
variable {V w u u' : World} {p : Nat} {s : Q18.St} {a : Option Addr} {c b1 b2 q : Nat} {H : Nat → Prop} {n : Nat} {v2 v3 v4 : Value}
theorem Cp.on (h : Cp V w u p s a c b1 b2 q H n v2 v3 v4) (hb : Below u.heap.size u u') : Cp V w u' p s a c b1 b2 q H n v2 v3 v4 :=
  ⟨h.ox.on hb, h.row.on hb, h.bel.trans (hb.mono h.bel.size), h.hn, h.old⟩
theorem Cp.ox' (h : Cp V w u p s a c b1 b2 q H n v2 v3 v4) (k : Nat) (v : Value) : Ox V (u.setCell ⟨n, k, none⟩ v) p s a c b1 b2 q H := by
  have hk : Kept (fun j => j = n) u (u.setCell ⟨n, k, none⟩ v) := Kept.set _ _ _ rfl
  exact h.ox.same (fun g hg => hk.block g (h.ox.lt g hg) (fun e => by have := h.old g hg; omega))
theorem Cp.set2 (h : Cp V w u p s a c b1 b2 q H n v2 v3 v4) (v : Value) : Cp V w (u.setCell ⟨n, 2, none⟩ v) p s a c b1 b2 q H n v v3 v4 :=
  ⟨h.ox' 2 v, h.row.set 2 v, h.bel.setCell h.hn _, h.hn, h.old⟩
theorem Cp.set3 (h : Cp V w u p s a c b1 b2 q H n v2 v3 v4) (v : Value) : Cp V w (u.setCell ⟨n, 3, none⟩ v) p s a c b1 b2 q H n v2 v v4 :=
  ⟨h.ox' 3 v, h.row.set 3 v, h.bel.setCell h.hn _, h.hn, h.old⟩
theorem Cp.is (h : Cp V w u p s a c b1 b2 q H n v2 v3 v4) {b : Nat} {D : Q18.Da} (hm : Mw.Is u b D) (k : Nat) (v : Value) : Mw.Is (u.setCell ⟨n, k, none⟩ v) b D := by
  have hk : Kept (fun j => j = n) u (u.setCell ⟨n, k, none⟩ v) := Kept.set _ _ _ rfl
  exact hm.same (hk.block _ hm.lt (hm.row h.row))
end
set_option maxHeartbeats 4000000 in
theorem oj_copy (V w : World) (p : Nat) (F : Nat → Prop) (s : Q18.St) (h : ObjectAt V w p F s) : Calls Try.prog 10 #[Ob.ptr p] w fun e w' => ∃ q F' G, e = .returned (Ob.ptr q) ∧ ObjectAt V w' p F' s ∧ ObjectAt V w' q G s ∧ (∀ g, F' g → F g ∨ w.heap.size ≤ g) ∧ (∀ g, G g → w.heap.size ≤ g) ∧ (∀ g, F' g → ¬ G g) ∧ Kept F w w' := by
  obtain ⟨a, c, b1, b2, q, H, hF, hx⟩ := h
  have HF : Hid (∀ g, F g ↔ g = p ∨ g = b1 ∨ g = b2 ∨ H g) := hF
  have HX : Hid (Ox V w p s a c b1 b2 q H) := hx
  obtain ⟨c0, c1, c2, c3, c4⟩ := hx.cells
  clear hF hx
  go_enter Try.func10, Try.ntmps10
  have hr0 : RowT 73 (w.alloc (.cells #[.int .i64 0, .slice none 0 0, .map none, .map none, .pointer none] 73)) w.heap.size #[.int .i64 0, .slice none 0 0, .map none, .map none, .pointer none] := RowT.new _ _ _
  go_upto_region 2 with (refine wpList_store_row (P := Try.prog) rfl 73 (.tmp 3) (.tmp 6) rfl w.heap.size #[.int .i64 s.who, .slice a s.l.length c, .map (some b1), .map (some b2), Ob.ptr q] rfl rfl 73 _ hr0 obinfo rfl (by simp [Value.oneCell']) ?_)
  have HC : Hid (Cp V w ((w.alloc (.cells #[.int .i64 0, .slice none 0 0, .map none, .map none, .pointer none] 73)).setRow w.heap.size #[.int .i64 s.who, .slice a s.l.length c, .map (some b1), .map (some b2), Ob.ptr q]) p s a c b1 b2 q H w.heap.size (.map (some b1)) (.map (some b2)) (Ob.ptr q)) := by
    have hb : Below w.heap.size w ((w.alloc (.cells #[.int .i64 0, .slice none 0 0, .map none, .map none, .pointer none] 73)).setRow w.heap.size #[.int .i64 s.who, .slice a s.l.length c, .map (some b1), .map (some b2), Ob.ptr q]) := below_setRow ((Below.refl _ _).alloc (Nat.le_refl _) _) (Nat.le_refl _) _
    exact ⟨HX.out.on hb, setRow_heap _ _ _ _ _ _ hr0, hb, Nat.le_refl _, fun g hg => HX.out.lt g hg⟩
  clear hr0 c0 c1 c2 c3 c4 HX
  generalize (w.alloc (.cells #[.int .i64 0, .slice none 0 0, .map none, .map none, .pointer none] 73)).setRow w.heap.size #[.int .i64 s.who, .slice a s.l.length c, .map (some b1), .map (some b2), Ob.ptr q] = u0 at HC ⊢
  generalize w.heap.size = n at HC ⊢
  have c2 := HC.out.ox.cells.2.2.1
  go_upto_region 3 with (go_at_call 27; refine (oj_clone u0 b1 s.own HC.out.ox.m1).mono ?_; rintro e u1 ⟨rfl, hm, hb⟩; have HC1 : Hid (Cp V w u1 p s a c b1 b2 q H n (.map (some b1)) (.map (some b2)) (Ob.ptr q)) := HC.out.on hb; have f2 := HC1.out.row.f 2; have x2 := HC1.out.row.c 2 _ rfl)
  have HM1 : Hid (Mw.Is (u1.setCell ⟨n, 2, none⟩ (.map (some u0.heap.size))) u0.heap.size s.own) := HC1.out.is hm _ _
  have HC2 : Hid (Cp V w (u1.setCell ⟨n, 2, none⟩ (.map (some u0.heap.size))) p s a c b1 b2 q H n (.map (some u0.heap.size)) (.map (some b2)) (Ob.ptr q)) := HC1.out.set2 _
  have HG1 : Hid (w.heap.size ≤ u0.heap.size ∧ u0.heap.size < u1.heap.size ∧ n < u0.heap.size ∧ ∀ g, g = p ∨ g = b1 ∨ g = b2 ∨ H g → g < n) := ⟨HC.out.bel.size, hm.lt, HC.out.row.lt, HC.out.old⟩
  clear c2 f2 x2 HC HC1 hm hb
  generalize hu2 : u1.setCell ⟨n, 2, none⟩ (.map (some u0.heap.size)) = u2 at HM1 HC2 ⊢
  have hs2 : u2.heap.size = u1.heap.size := by rw [← hu2]; simp [World.setCell]
  rw [← hs2] at HG1
  clear hu2 hs2
  generalize u0.heap.size = n1 at HM1 HC2 HG1 ⊢
  have c3 := HC2.out.ox.cells.2.2.2.1
  go_upto_region 4 with (go_at_call 27; refine (oj_clone u2 b2 s.came HC2.out.ox.m2).mono ?_; rintro e u3 ⟨rfl, hm, hb⟩; have HC3 : Hid (Cp V w u3 p s a c b1 b2 q H n (.map (some n1)) (.map (some b2)) (Ob.ptr q)) := HC2.out.on hb; have HM3 : Hid (Mw.Is u3 n1 s.own) := HM1.out.on hb; have f3 := HC3.out.row.f 3; have x3 := HC3.out.row.c 3 _ rfl)
  have HM4 : Hid (Mw.Is (u3.setCell ⟨n, 3, none⟩ (.map (some u2.heap.size))) n1 s.own) := HC3.out.is HM3.out _ _
  have HM5 : Hid (Mw.Is (u3.setCell ⟨n, 3, none⟩ (.map (some u2.heap.size))) u2.heap.size s.came) := HC3.out.is hm _ _
  have HC4 : Hid (Cp V w (u3.setCell ⟨n, 3, none⟩ (.map (some u2.heap.size))) p s a c b1 b2 q H n (.map (some n1)) (.map (some u2.heap.size)) (Ob.ptr q)) := HC3.out.set3 _
  have HG2 : Hid (w.heap.size ≤ n1 ∧ n1 < u2.heap.size ∧ u2.heap.size < u3.heap.size ∧ n < n1 ∧ w.heap.size ≤ n ∧ ∀ g, g = p ∨ g = b1 ∨ g = b2 ∨ H g → g < n) := ⟨HG1.out.1, HG1.out.2.1, hm.lt, HG1.out.2.2.1, HC2.out.hn, HG1.out.2.2.2⟩
  clear c3 f3 x3 HC2 HC3 hm hb HM3 HM1 HG1
  generalize hu4 : u3.setCell ⟨n, 3, none⟩ (.map (some u2.heap.size)) = u4 at HM4 HM5 HC4 ⊢
  have hs4 : u4.heap.size = u3.heap.size := by rw [← hu4]; simp [World.setCell]
  rw [← hs4] at HG2
  clear hu4 hs4
  generalize u2.heap.size = n2 at HM4 HM5 HC4 HG2 ⊢
  have c4 := HC4.out.ox.cells.2.2.2.2
  go_upto_region 5 with (go_at_call 28; refine (qk_copy u4 q H s.q HC4.out.ox.q).mono ?_; rintro e u5 ⟨qn, H', G, rfl, hq1, hq2, hs1, hs2, hd, hk⟩; have HR5 : Hid (RowT 73 u5 n #[.int .i64 s.who, .slice a s.l.length c, .map (some n1), .map (some n2), Ob.ptr q]) := HC4.out.row.kept hk (fun e => by have := HG2.out.2.2.2.2.2 n (by simp [e]); omega); have f4 := HR5.out.f 4; have x4 := HR5.out.c 4 _ rfl)
  have hkn : Kept (fun j => j = n) u5 (u5.setCell ⟨n, 4, none⟩ (Ob.ptr qn)) := Kept.set _ _ _ rfl
  obtain ⟨g1, g2, g3, g4, g5, g6⟩ := HG2.out
  have hx5 : Ox V u5 p s a c b1 b2 q H' := HC4.out.ox.queue hq1 hs1 hk
  have ho5 : ∀ g, g = p ∨ g = b1 ∨ g = b2 ∨ H' g → g < n ∨ u4.heap.size ≤ g := fun g hg => by
    rcases hg with hg | hg | hg | hg
    · exact Or.inl (g6 g (by simp [hg]))
    · exact Or.inl (g6 g (by simp [hg]))
    · exact Or.inl (g6 g (by simp [hg]))
    · exact (hs1 g hg).imp (fun k => g6 g (by simp [k])) id
  have hne : ∀ g, g = p ∨ g = b1 ∨ g = b2 ∨ H' g → g ≠ n := fun g hg => by rcases ho5 g hg with e | e <;> omega
  have HX6 : Hid (Ox V (u5.setCell ⟨n, 4, none⟩ (Ob.ptr qn)) p s a c b1 b2 q H') := hx5.same (fun g hg => hkn.block g (hx5.lt g hg) (hne g hg))
  have hm1 : Mw.Is u5 n1 s.own := HM4.out.same (hk.block _ HM4.out.lt (fun e => by have := g6 n1 (by simp [e]); omega))
  have hm2 : Mw.Is u5 n2 s.came := HM5.out.same (hk.block _ HM5.out.lt (fun e => by have := g6 n2 (by simp [e]); omega))
  have HY6 : Hid (Ox V (u5.setCell ⟨n, 4, none⟩ (Ob.ptr qn)) n s a c n1 n2 qn G) :=
    ⟨HR5.out.set 4 _, hm1.same (hkn.block _ hm1.lt (by omega)), hm2.same (hkn.block _ hm2.lt (by omega)), queue_is.on hq2 (fun g hg => hkn.block g (queue_is.lt hq2 g hg) (by have := hs2 g hg; omega)), by omega, fun g hg => by have := hs2 g hg; omega, HC4.out.ox.ok, HC4.out.ox.msgs⟩
  have HZ : Hid ((∀ g, (g = p ∨ g = b1 ∨ g = b2 ∨ H' g) → F g ∨ w.heap.size ≤ g) ∧ (∀ g, (g = n ∨ g = n1 ∨ g = n2 ∨ G g) → w.heap.size ≤ g) ∧ (∀ g, (g = p ∨ g = b1 ∨ g = b2 ∨ H' g) → ¬ (g = n ∨ g = n1 ∨ g = n2 ∨ G g)) ∧ Kept F w (u5.setCell ⟨n, 4, none⟩ (Ob.ptr qn))) := by
    refine ⟨fun g hg => ?_, fun g hg => ?_, fun g hg hg2 => ?_, ?_⟩
    · rcases hg with hg | hg | hg | hg
      · exact Or.inl ((HF.out g).2 (by simp [hg]))
      · exact Or.inl ((HF.out g).2 (by simp [hg]))
      · exact Or.inl ((HF.out g).2 (by simp [hg]))
      · exact (hs1 g hg).imp (fun k => (HF.out g).2 (by simp [k])) (fun k => by omega)
    · rcases hg with rfl | rfl | rfl | hg
      · exact g5
      · exact g1
      · omega
      · have := hs2 g hg; omega
    · rcases hg2 with rfl | rfl | rfl | hg2
      · exact hne _ hg rfl
      · rcases ho5 _ hg with e | e <;> omega
      · rcases ho5 _ hg with e | e <;> omega
      · rcases hg with hg | hg | hg | hg
        · have := g6 g (by simp [hg]); have := hs2 g hg2; omega
        · have := g6 g (by simp [hg]); have := hs2 g hg2; omega
        · have := g6 g (by simp [hg]); have := hs2 g hg2; omega
        · exact hd g hg hg2
    · refine ((Kept.of_below HC4.out.bel).trans hk (fun g hg => Or.inl ((HF.out g).2 (by simp [hg])))).trans hkn (fun g hg => Or.inr (by omega))
  clear c4 f4 x4 HC4 HM4 HM5 HG2 HR5 hkn hx5 hm1 hm2 hq1 hq2 hs1 hs2 hd hk g1 g2 g3 g4 g5 g6 ho5 hne
  go_wp2_with fail
  go_ret
  exact ⟨n, _, _, rfl, HX6.out.at_, HY6.out.at_, HZ.out⟩
theorem objectSpec : ObjectSpec (fun _ => True) ObjectAt where
  is := objectIs
  ok := fun ⟨_, _, _, _, _, _, _, h⟩ => h.ok
  new := fun V w m a who _ hb hm hS hw => oj_new V w m a who hb hm hS hw
  send := fun V w p F s k d _ hV hk h => oj_send V w p F s k d hV hk h
  state := fun V w p F s k _ _ hk h => oj_state V w p F s k hk h
  event := fun V w p F s _ _ h => oj_event V w p F s h
  sent := fun V w p F s k _ _ hk h => oj_sent V w p F s k hk h
  got := fun V w p F s k d _ _ hk h => oj_got V w p F s k d hk h
  read := fun V w p F s k _ _ hk h => oj_read V w p F s k hk h
  waiting := fun V w p F s _ _ h => oj_waiting V w p F s h
  copy := fun V w p F s _ _ h => oj_copy V w p F s h
end Go.Proofs.Ytkgeknkppnadfaa
