/- What walk of package stuff answers over a row of signs, over the program's own text. -/
import Derived.Test.YtaphdehhnnglgaaDoorX3
import Derived.WalkMore
import Derived.Deep.Onto
namespace Go.Proofs.YtaphdehhnnglgaaDoor
open Go.RowKit
/-- what with makes of a run that goes on by a sign -/
theorem rstep (r : Nat × Bool) (c : UInt8) (h : (c.toNat : Int) = Sm.sg (Bm.isOne c)) : (if (c.toNat : Int) = Sm.sv r then (r.1 : Int) + 1 else 1) = ((Sm.step r (Bm.isOne c)).1 : Int) := by
  rw [← Sm.wn_step, h]
  unfold Sm.wn
  have hw : Sm.wb (Sm.sg (Bm.isOne c)) = Sm.sg (Bm.isOne c) := by cases Bm.isOne c <;> decide
  rw [hw]
  by_cases h0 : r.1 = 0
  · have e : Sm.sv r = 0 := by unfold Sm.sv; rw [if_pos h0]
    rw [e, if_neg (by cases Bm.isOne c <;> decide), if_neg (by omega)]
  · by_cases h1 : Sm.sg (Bm.isOne c) = Sm.sv r
    · rw [if_pos h1, if_pos ⟨by omega, h1.symm⟩]
    · rw [if_neg h1, if_neg (fun h => h1 h.2.symm)]
theorem rwith_step (r : Nat × Bool) (c : UInt8) (w : World) (h : (c.toNat : Int) = Sm.sg (Bm.isOne c)) (hn : r.1 ≤ 1048576) :
    Calls Tryd.prog 44 #[.agg #[.int .u8 (Sm.sv r), .int .i64 r.1], .int .u8 (c.toNat : Int)] w fun e w' => e = .returned (.agg #[.int .u8 (Sm.sv (Sm.step r (Bm.isOne c))), .int .i64 (Sm.step r (Bm.isOne c)).1]) ∧ Below w.heap.size w w' := by
  refine (rwith_any (Sm.sv r) (c.toNat : Int) (r.1 : Int) w (by omega) (by omega)).mono ?_
  rintro e w' ⟨rfl, hb⟩
  refine ⟨?_, hb⟩
  rw [rstep r c h, ← Sm.sv_step, Sm.wb_byte, ← h]
set_option maxRecDepth 100000 in
set_option maxHeartbeats 2000000 in
theorem walk_any (s : ByteArray) (w : World) (hs : s.size ≤ 1048576) (hrow : ∀ k (h : k < s.size), (s[k].toNat : Int) = Sm.sg (Bm.isOne s[k])) :
    Calls Tryd.prog 62 #[.string s] w fun e w' => ∃ (v : Value) (r : Nat × Bool), e = .returned (.tuple #[v, .agg #[.int .u8 (Sm.sv r), .int .i64 r.1], .int .i64 (Sm.unstuff (Bm.read s.data.toList)).2]) ∧ Below w.heap.size w w' ∧
      w'.ownsRow w.heap.size 5 1 v (Sm.unstuff (Bm.read s.data.toList)).1.length (Bm.cellsOf (Bm.row (Sm.unstuff (Bm.read s.data.toList)).1)) ∧ ((Sm.unstuff (Bm.read s.data.toList)).2 < 0 → r = Sm.run (0, false) (Bm.read s.data.toList) ∧ r.1 ≤ 5) := by
  have hrow' : Hid (∀ k (h : k < s.size), (s[k].toNat : Int) = Sm.sg (Bm.isOne s[k])) := hrow
  clear hrow
  obtain ⟨i0, hi, hz0, hz1, hz2⟩ := info_parts Tryd.infoU8
  go_enter Tryd.func62, Tryd.ntmps62
  go_wp2
  go_step3
  go_wp2_with (at_make; refine wpList_make_own _ rfl (.const (.int .i64 0)) (.tmp 8) 47 rfl (w.heap.size + 1) 5 i0 (.int .u8 0) 1 Tryd.underlying47 hi hz0 hz1 .i64 .i64 (s.size : Int) s.size rfl rfl rfl (by rw [hz2]; omega) (by unfold maxLen; omega) (by simp) ?_; intro w1 hown1 hgrow1)
  have HR1 : Hid (w1.heap[w.heap.size]? = some (.cells #[.int .u8 0, .int .i64 0] 70 (0, 0))) := (hgrow1.block w.heap.size (by simp) (by simp)).trans (heap_alloc_new _ _)
  have hb1 : Below w.heap.size w w1 := ((Below.refl _ _).alloc (Nat.le_refl _) _).grown hgrow1 (by simp) (fun g hg => by cases hg)
  have HO1 : Hid (w1.ownsRow (w.heap.size + 1) 5 1 (.slice (some ⟨w.heap.size + 1, 0, none⟩) 0 s.size) 0 []) := by show World.ownsRow _ _ _ _ _ _ _; simpa using hown1
  clear hgrow1 hown1
  go_step3
  go_wp2
  go_loopw [2, 4, 12] (fun v sx i wr => ∃ (k : Nat) (r : Nat × Bool) (o : List Bool), k ≤ s.size ∧ i = .int .i64 k ∧ sx = .int .i64 (-1) ∧ Hid (wr.ownsRow (w.heap.size + 1) 5 1 v o.length (Bm.cellsOf (Bm.row o))) ∧ Hid (wr.heap[w.heap.size]? = some (.cells #[.int .u8 (Sm.sv r), .int .i64 r.1] 70 (0, 0))) ∧ Below w.heap.size w wr ∧ Hid (Sm.unstuff (Bm.read s.data.toList) = Sm.unB r o k ((Bm.read s.data.toList).drop k)) ∧ r.1 ≤ 5 ∧ o.length ≤ k ∧ Hid (Sm.run (0, false) (Bm.read s.data.toList) = Sm.run r ((Bm.read s.data.toList).drop k)))
    (fun _ _ i _ => s.size - (intOf i).toNat)
  case atStart => exact ⟨0, (0, false), [], Nat.zero_le _, rfl, rfl, HO1, HR1, hb1, rfl, by decide, by decide, rfl⟩
  case round =>
    obtain ⟨k, r, o, hk, rfl, rfl, HO, HR, hb, HI, hr, ho, HN⟩ := hrel
    by_cases hlt : k < s.size
    · have hsz : w.heap.size < wr.heap.size := (Array.getElem?_eq_some_iff.1 HR.out).1
      have hc0 := Lw.cell0 HR.out
      have hc1 := Lw.cell1 HR.out
      have HX : Hid ((s[k].toNat : Int) = Sm.sg (Bm.isOne s[k])) := hrow'.out k hlt
      go_wp2_with fail
      refine (rfull_any _ _ _).mono ?_
      rintro e w0 ⟨rfl, hb0⟩
      obtain ⟨f5, hf5⟩ : ∃ f5, decide (5 ≤ (r.1 : Int)) = f5 := ⟨_, rfl⟩
      rw [hf5]
      have hn5 : Hid (f5 = true ↔ r.1 = 5) := by
        show _ ↔ _
        rw [← hf5, decide_eq_true_eq]
        omega
      have HR0 : Hid (w0.heap[w.heap.size]? = some (.cells #[.int .u8 (Sm.sv r), .int .i64 r.1] 70 (0, 0))) := (hb0.block w.heap.size hsz).trans HR.out
      have HO0 : Hid (w0.ownsRow (w.heap.size + 1) 5 1 u2 o.length (Bm.cellsOf (Bm.row o))) := Lw.owns_keep HO.out (fun g _ hg => hb0.block g hg)
      have hb00 : Below w.heap.size w w0 := hb.trans (hb0.mono (Nat.le_of_lt hsz))
      clear hc0 hc1 HR HO hb hb0 hsz hf5
      have hsz : w.heap.size < w0.heap.size := (Array.getElem?_eq_some_iff.1 HR0.out).1
      have hc0 := Lw.cell0 HR0.out
      have hc1 := Lw.cell1 HR0.out
      go_wp2_with fail
      go_region_with (go_at_call 44; refine (rwith_step _ _ _ HX.out (by omega)).mono ?_; rintro e w1 ⟨rfl, hb1⟩; have d0 := (hb1.cell (p := ⟨w.heap.size, 0, none⟩) hsz).trans hc0; have d1 := (hb1.cell (p := ⟨w.heap.size, 1, none⟩) hsz).trans hc1; have f0 := (hb1.frozen (p := ⟨w.heap.size, 0, none⟩) hsz).trans (frozen_of_row _ _ _ _ _ HR0.out); have f1 := (hb1.frozen (p := ⟨w.heap.size, 1, none⟩) hsz).trans (frozen_of_row _ _ _ _ _ HR0.out))
      all_goals
        clear hc0 hc1 d0 d1 f0 f1
        have HR1 : Hid (w1.heap[w.heap.size]? = some (.cells #[.int .u8 (Sm.sv r), .int .i64 r.1] 70 (0, 0))) := (hb1.block w.heap.size hsz).trans HR0.out
        have HO1 : Hid (w1.ownsRow (w.heap.size + 1) 5 1 u2 o.length (Bm.cellsOf (Bm.row o))) := Lw.owns_keep HO0.out (fun g _ hg => hb1.block g hg)
        have hb2 : Below w.heap.size w w1 := hb00.drew.trans (hb1.mono (Nat.le_of_lt hsz))
        clear HR0 HO0 hb00 hb1
        obtain ⟨w2, hw2⟩ : ∃ w2, w2 = ((w1.setCell ⟨w.heap.size, 0, none⟩ (.int .u8 (Sm.sv (Sm.step r (Bm.isOne s[k]))))).setCell ⟨w.heap.size, 1, none⟩ (.int .i64 (Sm.step r (Bm.isOne s[k])).1)) := ⟨_, rfl⟩
        rw [← hw2]
        have HR2 : Hid (w2.heap[w.heap.size]? = some (.cells #[.int .u8 (Sm.sv (Sm.step r (Bm.isOne s[k]))), .int .i64 (Sm.step r (Bm.isOne s[k])).1] 70 (0, 0))) := by
          rw [hw2]; exact Lw.two_cells HR1.out
        have HO2 : Hid (w2.ownsRow (w.heap.size + 1) 5 1 u2 o.length (Bm.cellsOf (Bm.row o))) := by
          rw [hw2]; exact Lw.owns_keep HO1.out (fun g hg _ => Lw.two_other (by omega))
        have hb3 : Below w.heap.size w w2 := by
          rw [hw2]; exact (hb2.setCell (Nat.le_refl _) _).setCell (Nat.le_refl _) _
        clear hw2 HR1 HO1 hb2 hsz
        have hsz2 : w.heap.size < w2.heap.size := (Array.getElem?_eq_some_iff.1 HR2.out).1
        have HI2 : Hid (Sm.unstuff (Bm.read s.data.toList) = if (Sm.step r (Bm.isOne s[k])).1 = 6 then (o, (k : Int)) else Sm.unB (Sm.step r (Bm.isOne s[k])) (if r.1 = 5 then o else o ++ [(Sm.step r (Bm.isOne s[k])).2]) (k + 1) ((Bm.read s.data.toList).drop (k + 1))) := by
          show _ = _
          rw [HI.out, Bm.read_drop s k hlt, Sm.step_snd]
          rfl
        have HN2 : Hid (Sm.run (0, false) (Bm.read s.data.toList) = Sm.run (Sm.step r (Bm.isOne s[k])) ((Bm.read s.data.toList).drop (k + 1))) := by
          show _ = _
          rw [HN.out, Bm.read_drop s k hlt]
          rfl
        have HY : Hid ((s[k].toNat : Int) = ((Bm.sign (Sm.step r (Bm.isOne s[k])).2).toNat : Int)) := by
          show _ = _
          rw [HX.out, Sm.step_snd, Sm.sg_sign]
        have hp := Sm.step_pos r (Bm.isOne s[k])
        have hle := Sm.step_le r (Bm.isOne s[k])
        generalize Sm.step r (Bm.isOne s[k]) = q at *
        have hc0 := Lw.cell0 HR2.out
        have hc1 := Lw.cell1 HR2.out
        have hk1 : o.length + 1 ≤ maxLen := by unfold maxLen; omega
        clear HI HN HX
        by_cases h6 : q.1 = 6
        · have t6 : decide (5 < (q.1 : Int)) = true := by rw [h6]; rfl
          have HE : Hid (Sm.unstuff (Bm.read s.data.toList) = (o, (k : Int))) := by
            show _ = _
            rw [HI2.out, if_pos h6]
          clear HI2 HN2 h6
          go_wp2
          have z0 := frozen_of_row _ _ 0 _ _ HR2.out
          have z1 := frozen_of_row _ _ 1 _ _ HR2.out
          go_region_with fail
          all_goals
            go_wp2
            have HR3 := Lw.two_cells (a' := .int .u8 (Sm.sv q)) (b' := .int .i64 (q.1 : Int)) HR2.out
            have hb4 := (Lw.below_two (a' := .int .u8 (Sm.sv q)) (b' := .int .i64 (q.1 : Int)) hb3).drew
            have ho4 := (Lw.owns_two (a' := .int .u8 (Sm.sv q)) (b' := .int .i64 (q.1 : Int)) HO2.out).drew
            obtain ⟨w3, hw3⟩ : ∃ w3, w3 = ((w2.setCell ⟨w.heap.size, 0, none⟩ (.int .u8 (Sm.sv q))).setCell ⟨w.heap.size, 1, none⟩ (.int .i64 (q.1 : Int))).drew := ⟨_, rfl⟩
            rw [← hw3] at hb4 ho4
            have HR4 : w3.heap[w.heap.size]? = some (.cells #[.int .u8 (Sm.sv q), .int .i64 q.1] 70 (0, 0)) := by rw [hw3]; exact HR3
            rw [← hw3, Exit.noGoto_ret]
            clear hw3 HR3
            have y0 := Lw.cell0 HR4
            have y1 := Lw.cell1 HR4
            exact bodyPost_ret (v := .tuple #[u2, .agg #[.int .u8 (Sm.sv q), .int .i64 q.1], .int .i64 k]) (by simp [results, Tryd.results62, go_sem, y0, y1]) rfl ⟨u2, q, by rw [HE.out], hb4, by rw [HE.out]; exact ho4.mono (Nat.le_succ _), by rw [HE.out]; intro h; exact absurd h (by simp)⟩
        · have t6 : decide (5 < (q.1 : Int)) = false := by simp; omega
          have h6' : q.1 ≤ 5 := by omega
          cases f5
          · have h5 : ¬ r.1 = 5 := fun h => by have := hn5.out.2 h; cases this
            clear hn5
            go_wp2_with (at_builtin; refine wpList_append_own _ rfl (.tmp 29) (.tmp 33) 47 rfl (w.heap.size + 1) 5 i0 (.int .u8 0) 1 1 Tryd.underlying47 hi hz0 hz1 hz2 rfl (by decide) u2 o.length _ rfl (HO2.out.alloc _) _ 1 1 [.int .u8 (s[k].toNat : Int)] rfl rfl (cell_one_new _ _ _) (ints_oneCell .u8 [_]) hk1 (by omega) (by simp; omega) ?_; intro v3 w3 hown3 hgrow3 _; have HR3 : Hid (_) := (Lw.grow_block HO2.out hgrow3 hsz2).trans HR2.out; have g0 := Lw.cell0 HR3.out; have g1 := Lw.cell1 HR3.out; have hb4 := Lw.grow_below hb3 HO2.out hgrow3 (Nat.le_of_lt hsz2); clear hgrow3 hc0 hc1)
            have HO4 : Hid (w3.ownsRow (w.heap.size + 1) 5 1 v3 (o ++ [q.2]).length (Bm.cellsOf (Bm.row (o ++ [q.2])))) := by
              rw [HY.out] at hown3
              show World.ownsRow _ _ _ _ _ _ _
              rw [List.length_append]
              simpa [Bm.row, Bm.cellsOf] using hown3
            go_roundw
            case rel => exact ⟨k + 1, q, o ++ [q.2], by omega, by go_num, rfl, HO4, HR3, hb4, by rw [HI2.out, if_neg h6, if_neg h5]; rfl, h6', by simp; omega, HN2⟩
            case measure => simp [intOf]; omega
          · have h5 : r.1 = 5 := hn5.out.1 rfl
            clear hn5
            go_wp2
            go_roundw
            case rel => exact ⟨k + 1, q, o, by omega, by go_num, rfl, HO2, HR2, hb3, by rw [HI2.out, if_neg h6, if_pos h5]; rfl, h6', by omega, HN2⟩
            case measure => simp [intOf]; omega
    · have hlen : (Bm.read s.data.toList).length ≤ k := by rw [Bm.length_read]; simp; omega
      have HE : Hid (Sm.unstuff (Bm.read s.data.toList) = (o, -1)) := by
        show _ = _
        rw [HI.out, List.drop_of_length_le hlen]
        rfl
      have HM : Hid (r = Sm.run (0, false) (Bm.read s.data.toList)) := by
        show _ = _
        rw [HN.out, List.drop_of_length_le hlen]
        rfl
      have hc0 := Lw.cell0 HR.out
      have hc1 := Lw.cell1 HR.out
      clear HI HN hlen
      go_wp2
      have z0 := frozen_of_row _ _ 0 _ _ HR.out
      have z1 := frozen_of_row _ _ 1 _ _ HR.out
      go_region_with fail
      all_goals
        go_wp2
        have HR3 := Lw.two_cells (a' := .int .u8 (Sm.sv r)) (b' := .int .i64 (r.1 : Int)) HR.out
        have hb4 := (Lw.below_two (a' := .int .u8 (Sm.sv r)) (b' := .int .i64 (r.1 : Int)) hb).drew
        have ho4 := (Lw.owns_two (a' := .int .u8 (Sm.sv r)) (b' := .int .i64 (r.1 : Int)) HO.out).drew
        obtain ⟨w3, hw3⟩ : ∃ w3, w3 = ((wr.setCell ⟨w.heap.size, 0, none⟩ (.int .u8 (Sm.sv r))).setCell ⟨w.heap.size, 1, none⟩ (.int .i64 (r.1 : Int))).drew := ⟨_, rfl⟩
        rw [← hw3] at hb4 ho4
        have HR4 : w3.heap[w.heap.size]? = some (.cells #[.int .u8 (Sm.sv r), .int .i64 r.1] 70 (0, 0)) := by rw [hw3]; exact HR3
        rw [← hw3, Exit.noGoto_ret]
        clear hw3 HR3
        have y0 := Lw.cell0 HR4
        have y1 := Lw.cell1 HR4
        exact bodyPost_ret (v := .tuple #[u2, .agg #[.int .u8 (Sm.sv r), .int .i64 r.1], .int .i64 (-1)]) (by simp [results, Tryd.results62, go_sem, y0, y1]) rfl ⟨u2, r, by rw [HE.out], hb4, by rw [HE.out]; exact ho4.mono (Nat.le_succ _), fun _ => ⟨HM.out, hr⟩⟩
end Go.Proofs.YtaphdehhnnglgaaDoor
