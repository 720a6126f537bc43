/- What And of package bits and signs, with, full, other of package stuff answer, over the program's own text. -/
import Derived.Test.YthkaekpoicodeaaGreatDoorRows
import Derived.Test.YthkaekpoicodeaaGreatDoorU1
import Derived.Test.YthkaekpoicodeaaGreatDoorU3
import Derived.Test.YthkaekpoicodeaaGreatDoorU2
import Derived.WalkKit
import Derived.WalkSpells
import Derived.WalkLawsBesides
import Derived.Handy
import Derived.WalkMore
import Derived.Deep.Onto
namespace Go.Proofs.YthkaekpoicodeaaGreatDoor
open Go.RowKit

set_option maxRecDepth 100000 in
set_option maxHeartbeats 1000000 in
theorem and_any (s t : ByteArray) (w : World) (hs : s.size ≤ 1048576) :
    Calls Tryz.prog 106 #[.string s, .string t] w fun e w' => e = .returned (.string ⟨(Bm.row (Bm.both (Bm.read s.data.toList) (Bm.read t.data.toList))).toArray⟩) ∧ Below w.heap.size w w' := by
  obtain ⟨m, hm⟩ : ∃ m, m = min s.size t.size := ⟨_, rfl⟩
  have hms : m ≤ s.size := by omega
  have hmt : m ≤ t.size := by omega
  have HM : Hid (m = min s.size t.size) := hm
  have hmi : min (s.size : Int) (t.size : Int) = (m : Int) := by omega
  clear hm
  have hmk := fun W => Lw.run_makeBytes (P := Tryz.prog) 74 5 Tryz.underlying74 Tryz.infoU8 (m : Int) m rfl (by omega) W
  go_enter Tryz.func106, Tryz.ntmps106
  go_wp2
  go_loopw [15] (fun i wr => ∃ k : Nat, k ≤ m ∧ i = .int .i64 k ∧ Hid (wr.heap[w.heap.size]? = some (.cells (Bm.fillV (Bm.row (Bm.both (Bm.read (s.data.toList.take k)) (Bm.read (t.data.toList.take k)))) m).toArray 5 (0, 0))) ∧ Below w.heap.size w wr)
    (fun i _ => m - (intOf i).toNat)
  case atStart => exact ⟨0, Nat.zero_le _, rfl, heap_alloc_new _ _, (Below.refl _ _).alloc (Nat.le_refl _) _⟩
  case round =>
    obtain ⟨k, hk, rfl, HG, hb⟩ := hrel
    by_cases hlt : k < m
    · have hks : k < s.size := by omega
      have hkt : k < t.size := by omega
      have hlen := Bm.length_both_take s t k (by omega) (by omega)
      have hcell : wr.cell? ⟨w.heap.size, k, none⟩ = some (.int .u8 0) := by
        rw [cell_of_row _ _ _ _ _ _ HG.out]
        have h := Bm.fillV_get (Bm.row (Bm.both (Bm.read (s.data.toList.take k)) (Bm.read (t.data.toList.take k)))) m (by omega)
        rw [hlen] at h
        simpa using h
      have hfz : wr.frozen? ⟨w.heap.size, k, none⟩ = false := frozen_of_row _ _ _ _ _ HG.out
      have HSet : Hid ((wr.setCell ⟨w.heap.size, k, none⟩ (.int .u8 (IntKind.u8.wrap (48 + bits .and .u8 (Bm.bitI (s[k].toNat : Int)) (Bm.bitI (t[k].toNat : Int)))))).heap[w.heap.size]? = some (.cells (Bm.fillV (Bm.row (Bm.both (Bm.read (s.data.toList.take (k + 1))) (Bm.read (t.data.toList.take (k + 1))))) m).toArray 5 (0, 0))) := by
        show _ = _
        rw [heap_setCell_same _ _ _ _ _ _ HG.out, Bm.both_take_succ s t k hks hkt, ← Bm.fillV_set _ _ _ (by omega), hlen, Bm.and_wrap]
      have hbs : Below w.heap.size w (wr.setCell ⟨w.heap.size, k, none⟩ (.int .u8 (IntKind.u8.wrap (48 + bits .and .u8 (Bm.bitI (s[k].toNat : Int)) (Bm.bitI (t[k].toNat : Int)))))) := hb.setCell (Nat.le_refl _) _
      clear hlen hmk hmi HG
      go_wp2_with fail
      go_region_with (go_at_call 85; refine (bit_any _ _).mono ?_; rintro e w' ⟨rfl, rfl⟩)
      all_goals
        clear hcell hfz
        go_wp2
        go_roundw
        case rel => exact ⟨k + 1, by omega, by go_num, HSet, hbs.drew⟩
        case measure => simp [intOf]; omega
    · obtain rfl : k = m := by omega
      have HG' : Hid (wr.heap[w.heap.size]? = some (.cells (Bm.cellsOf (Bm.row (Bm.both (Bm.read s.data.toList) (Bm.read t.data.toList)))).toArray 5 (0, 0))) := by
        show _ = _
        rw [HG.out, Bm.fillV_full _ _ (Bm.length_both_take s t k (by omega) (by omega)), HM.out, Bm.both_take_all]
      have HLt : Hid ((Bm.row (Bm.both (Bm.read s.data.toList) (Bm.read t.data.toList))).length = k) := by
        show _ = _
        rw [← Bm.both_take_all, ← HM.out, Bm.length_both_take s t k (by omega) (by omega)]
      clear HG hmk
      have hconv := Lw.run_conv_row (P := Tryz.prog) HG'.out 74 5 9 Tryz.underlying74 Tryz.underlying5 Tryz.underlying9 0 k k (by rw [HLt.out]; omega) (Bm.row (Bm.both (Bm.read s.data.toList) (Bm.read t.data.toList))) (by rw [List.drop_zero, List.take_of_length_le (by rw [HLt.out]; omega)])
      go_wp2
      go_ret
      exact ⟨rfl, hb⟩

set_option maxHeartbeats 400000 in
theorem signs_any (s : ByteArray) (w : World) (hs : s.size ≤ 1048576) :
    Calls Tryz.prog 80 #[.string s] w fun e w' => e = .returned (.string ⟨(Bm.row (Bm.read s.data.toList)).toArray⟩) ∧ Below w.heap.size w w' := by
  have HE : Hid (Bm.both (Bm.read s.data.toList) (Bm.read s.data.toList) = Bm.read s.data.toList) := Bm.both_self _
  go_enter Tryz.func80, Tryz.ntmps80
  go_wp2_with fail
  refine (and_any s s _ hs).mono ?_
  rintro e w1 ⟨rfl, hb⟩
  rw [HE.out]
  go_wp2
  go_ret
  exact ⟨rfl, hb⟩

set_option maxHeartbeats 1000000 in
theorem rwith_any (x c n : Int) (w : World) (h0 : 0 ≤ n) (hn : n ≤ 1048576) :
    Calls Tryz.prog 81 #[.agg #[.int .u8 x, .int .i64 n], .int .u8 c] w fun e w' => e = .returned (.agg #[.int .u8 c, .int .i64 (if c = x then n + 1 else 1)]) ∧ Below w.heap.size w w' := by
  by_cases h : c = x
  · have hb : (c != x) = false := by simp [h]
    rw [if_pos h]
    clear h
    go_enter Tryz.func81, Tryz.ntmps81
    go_wp2
    exact bodyPost_ret (v := .agg #[.int .u8 c, .int .i64 (n + 1)]) (by simp [results, Tryz.results81, go_sem]) rfl ⟨rfl, ((Below.refl _ _).alloc (Nat.le_refl _) _).alloc (by simp) _⟩
  · have hb : (c != x) = true := by simp [h]
    rw [if_neg h]
    clear h
    go_enter Tryz.func81, Tryz.ntmps81
    go_wp2
    exact bodyPost_ret (v := .agg #[.int .u8 c, .int .i64 1]) (by simp [results, Tryz.results81, go_sem]) rfl ⟨rfl, ((Below.refl _ _).alloc (Nat.le_refl _) _).alloc (by simp) _⟩

set_option maxHeartbeats 400000 in
theorem rfull_any (x n : Int) (w : World) :
    Calls Tryz.prog 82 #[.agg #[.int .u8 x, .int .i64 n]] w fun e w' => e = .returned (.bool (decide (5 ≤ n))) ∧ Below w.heap.size w w' := by
  go_enter Tryz.func82, Tryz.ntmps82
  go_wp2
  go_ret
  exact ⟨rfl, (Below.refl _ _).alloc (Nat.le_refl _) _⟩
set_option maxHeartbeats 400000 in
theorem rother_any (b : Bool) (n : Int) (w : World) :
    Calls Tryz.prog 83 #[.agg #[.int .u8 (Sm.sg b), .int .i64 n]] w fun e w' => e = .returned (.int .u8 (Sm.sg (!b))) ∧ Below w.heap.size w w' := by
  cases b
  · have e1 : Sm.sg false = 48 := rfl
    have e2 : Sm.sg (!false) = 49 := rfl
    rw [e1, e2]
    go_enter Tryz.func83, Tryz.ntmps83
    go_wp2
    go_ret
    exact ⟨ret_int (by decide), (Below.refl _ _).alloc (Nat.le_refl _) _⟩
  · have e1 : Sm.sg true = 49 := rfl
    have e2 : Sm.sg (!true) = 48 := rfl
    rw [e1, e2]
    go_enter Tryz.func83, Tryz.ntmps83
    go_wp2
    go_ret
    exact ⟨ret_int (by decide), (Below.refl _ _).alloc (Nat.le_refl _) _⟩
end Go.Proofs.YthkaekpoicodeaaGreatDoor
/- What walk of package stuff answers over a row of signs, over the program's own text. -/
namespace Go.Proofs.YthkaekpoicodeaaGreatDoor
open Go.RowKit
/-- what with makes of a run that goes on by a sign -/
theorem rstep (r : Nat × Bool) (c : UInt8) (h : (c.toNat : Int) = Sm.sg (Bm.isOne c)) : (if (c.toNat : Int) = Sm.sv r then (r.1 : Int) + 1 else 1) = ((Sm.step r (Bm.isOne c)).1 : Int) := by
  rw [← Sm.wn_step, h]
  unfold Sm.wn
  have hw : Sm.wb (Sm.sg (Bm.isOne c)) = Sm.sg (Bm.isOne c) := by cases Bm.isOne c <;> decide
  rw [hw]
  by_cases h0 : r.1 = 0
  · have e : Sm.sv r = 0 := by unfold Sm.sv; rw [if_pos h0]
    rw [e, if_neg (by cases Bm.isOne c <;> decide), if_neg (by omega)]
  · by_cases h1 : Sm.sg (Bm.isOne c) = Sm.sv r
    · rw [if_pos h1, if_pos ⟨by omega, h1.symm⟩]
    · rw [if_neg h1, if_neg (fun h => h1 h.2.symm)]
theorem rwith_step (r : Nat × Bool) (c : UInt8) (w : World) (h : (c.toNat : Int) = Sm.sg (Bm.isOne c)) (hn : r.1 ≤ 1048576) :
    Calls Tryz.prog 81 #[.agg #[.int .u8 (Sm.sv r), .int .i64 r.1], .int .u8 (c.toNat : Int)] w fun e w' => e = .returned (.agg #[.int .u8 (Sm.sv (Sm.step r (Bm.isOne c))), .int .i64 (Sm.step r (Bm.isOne c)).1]) ∧ Below w.heap.size w w' := by
  refine (rwith_any (Sm.sv r) (c.toNat : Int) (r.1 : Int) w (by omega) (by omega)).mono ?_
  rintro e w' ⟨rfl, hb⟩
  refine ⟨?_, hb⟩
  rw [rstep r c h, ← Sm.sv_step, Sm.wb_byte, ← h]
set_option maxRecDepth 100000 in
set_option maxHeartbeats 2000000 in
theorem walk_any (s : ByteArray) (w : World) (hs : s.size ≤ 1048576) (hrow : ∀ k (h : k < s.size), (s[k].toNat : Int) = Sm.sg (Bm.isOne s[k])) :
    Calls Tryz.prog 119 #[.string s] w fun e w' => ∃ (v : Value) (r : Nat × Bool), e = .returned (.tuple #[v, .agg #[.int .u8 (Sm.sv r), .int .i64 r.1], .int .i64 (Sm.unstuff (Bm.read s.data.toList)).2]) ∧ Below w.heap.size w w' ∧
      w'.ownsRow w.heap.size 5 1 v (Sm.unstuff (Bm.read s.data.toList)).1.length (Bm.cellsOf (Bm.row (Sm.unstuff (Bm.read s.data.toList)).1)) ∧ ((Sm.unstuff (Bm.read s.data.toList)).2 < 0 → r = Sm.run (0, false) (Bm.read s.data.toList) ∧ r.1 ≤ 5) := by
  have hrow' : Hid (∀ k (h : k < s.size), (s[k].toNat : Int) = Sm.sg (Bm.isOne s[k])) := hrow
  clear hrow
  obtain ⟨i0, hi, hz0, hz1, hz2⟩ := info_parts Tryz.infoU8
  go_enter Tryz.func119, Tryz.ntmps119
  go_wp2
  go_step3
  go_wp2_with (at_make; refine wpList_make_own _ rfl (.const (.int .i64 0)) (.tmp 8) 74 rfl (w.heap.size + 1) 5 i0 (.int .u8 0) 1 Tryz.underlying74 hi hz0 hz1 .i64 .i64 (s.size : Int) s.size rfl rfl rfl (by rw [hz2]; omega) (by unfold maxLen; omega) (by simp) ?_; intro w1 hown1 hgrow1)
  have HR1 : Hid (w1.heap[w.heap.size]? = some (.cells #[.int .u8 0, .int .i64 0] 112 (0, 0))) := (hgrow1.block w.heap.size (by simp) (by simp)).trans (heap_alloc_new _ _)
  have hb1 : Below w.heap.size w w1 := ((Below.refl _ _).alloc (Nat.le_refl _) _).grown hgrow1 (by simp) (fun g hg => by cases hg)
  have HO1 : Hid (w1.ownsRow (w.heap.size + 1) 5 1 (.slice (some ⟨w.heap.size + 1, 0, none⟩) 0 s.size) 0 []) := by show World.ownsRow _ _ _ _ _ _ _; simpa using hown1
  clear hgrow1 hown1
  go_step3
  go_wp2
  go_loopw [2, 4, 12] (fun v sx i wr => ∃ (k : Nat) (r : Nat × Bool) (o : List Bool), k ≤ s.size ∧ i = .int .i64 k ∧ sx = .int .i64 (-1) ∧ Hid (wr.ownsRow (w.heap.size + 1) 5 1 v o.length (Bm.cellsOf (Bm.row o))) ∧ Hid (wr.heap[w.heap.size]? = some (.cells #[.int .u8 (Sm.sv r), .int .i64 r.1] 112 (0, 0))) ∧ Below w.heap.size w wr ∧ Hid (Sm.unstuff (Bm.read s.data.toList) = Sm.unB r o k ((Bm.read s.data.toList).drop k)) ∧ r.1 ≤ 5 ∧ o.length ≤ k ∧ Hid (Sm.run (0, false) (Bm.read s.data.toList) = Sm.run r ((Bm.read s.data.toList).drop k)))
    (fun _ _ i _ => s.size - (intOf i).toNat)
  case atStart => exact ⟨0, (0, false), [], Nat.zero_le _, rfl, rfl, HO1, HR1, hb1, rfl, by decide, by decide, rfl⟩
  case round =>
    obtain ⟨k, r, o, hk, rfl, rfl, HO, HR, hb, HI, hr, ho, HN⟩ := hrel
    by_cases hlt : k < s.size
    · have hsz : w.heap.size < wr.heap.size := (Array.getElem?_eq_some_iff.1 HR.out).1
      have hc0 := Lw.cell0 HR.out
      have hc1 := Lw.cell1 HR.out
      have HX : Hid ((s[k].toNat : Int) = Sm.sg (Bm.isOne s[k])) := hrow'.out k hlt
      go_wp2_with fail
      refine (rfull_any _ _ _).mono ?_
      rintro e w0 ⟨rfl, hb0⟩
      obtain ⟨f5, hf5⟩ : ∃ f5, decide (5 ≤ (r.1 : Int)) = f5 := ⟨_, rfl⟩
      rw [hf5]
      have hn5 : Hid (f5 = true ↔ r.1 = 5) := by
        show _ ↔ _
        rw [← hf5, decide_eq_true_eq]
        omega
      have HR0 : Hid (w0.heap[w.heap.size]? = some (.cells #[.int .u8 (Sm.sv r), .int .i64 r.1] 112 (0, 0))) := (hb0.block w.heap.size hsz).trans HR.out
      have HO0 : Hid (w0.ownsRow (w.heap.size + 1) 5 1 u2 o.length (Bm.cellsOf (Bm.row o))) := Lw.owns_keep HO.out (fun g _ hg => hb0.block g hg)
      have hb00 : Below w.heap.size w w0 := hb.trans (hb0.mono (Nat.le_of_lt hsz))
      clear hc0 hc1 HR HO hb hb0 hsz hf5
      have hsz : w.heap.size < w0.heap.size := (Array.getElem?_eq_some_iff.1 HR0.out).1
      have hc0 := Lw.cell0 HR0.out
      have hc1 := Lw.cell1 HR0.out
      go_wp2_with fail
      go_region_with (go_at_call 81; refine (rwith_step _ _ _ HX.out (by omega)).mono ?_; rintro e w1 ⟨rfl, hb1⟩; have d0 := (hb1.cell (p := ⟨w.heap.size, 0, none⟩) hsz).trans hc0; have d1 := (hb1.cell (p := ⟨w.heap.size, 1, none⟩) hsz).trans hc1; have f0 := (hb1.frozen (p := ⟨w.heap.size, 0, none⟩) hsz).trans (frozen_of_row _ _ _ _ _ HR0.out); have f1 := (hb1.frozen (p := ⟨w.heap.size, 1, none⟩) hsz).trans (frozen_of_row _ _ _ _ _ HR0.out))
      all_goals
        clear hc0 hc1 d0 d1 f0 f1
        have HR1 : Hid (w1.heap[w.heap.size]? = some (.cells #[.int .u8 (Sm.sv r), .int .i64 r.1] 112 (0, 0))) := (hb1.block w.heap.size hsz).trans HR0.out
        have HO1 : Hid (w1.ownsRow (w.heap.size + 1) 5 1 u2 o.length (Bm.cellsOf (Bm.row o))) := Lw.owns_keep HO0.out (fun g _ hg => hb1.block g hg)
        have hb2 : Below w.heap.size w w1 := hb00.drew.trans (hb1.mono (Nat.le_of_lt hsz))
        clear HR0 HO0 hb00 hb1
        obtain ⟨w2, hw2⟩ : ∃ w2, w2 = ((w1.setCell ⟨w.heap.size, 0, none⟩ (.int .u8 (Sm.sv (Sm.step r (Bm.isOne s[k]))))).setCell ⟨w.heap.size, 1, none⟩ (.int .i64 (Sm.step r (Bm.isOne s[k])).1)) := ⟨_, rfl⟩
        rw [← hw2]
        have HR2 : Hid (w2.heap[w.heap.size]? = some (.cells #[.int .u8 (Sm.sv (Sm.step r (Bm.isOne s[k]))), .int .i64 (Sm.step r (Bm.isOne s[k])).1] 112 (0, 0))) := by
          rw [hw2]; exact Lw.two_cells HR1.out
        have HO2 : Hid (w2.ownsRow (w.heap.size + 1) 5 1 u2 o.length (Bm.cellsOf (Bm.row o))) := by
          rw [hw2]; exact Lw.owns_keep HO1.out (fun g hg _ => Lw.two_other (by omega))
        have hb3 : Below w.heap.size w w2 := by
          rw [hw2]; exact (hb2.setCell (Nat.le_refl _) _).setCell (Nat.le_refl _) _
        clear hw2 HR1 HO1 hb2 hsz
        have hsz2 : w.heap.size < w2.heap.size := (Array.getElem?_eq_some_iff.1 HR2.out).1
        have HI2 : Hid (Sm.unstuff (Bm.read s.data.toList) = if (Sm.step r (Bm.isOne s[k])).1 = 6 then (o, (k : Int)) else Sm.unB (Sm.step r (Bm.isOne s[k])) (if r.1 = 5 then o else o ++ [(Sm.step r (Bm.isOne s[k])).2]) (k + 1) ((Bm.read s.data.toList).drop (k + 1))) := by
          show _ = _
          rw [HI.out, Bm.read_drop s k hlt, Sm.step_snd]
          rfl
        have HN2 : Hid (Sm.run (0, false) (Bm.read s.data.toList) = Sm.run (Sm.step r (Bm.isOne s[k])) ((Bm.read s.data.toList).drop (k + 1))) := by
          show _ = _
          rw [HN.out, Bm.read_drop s k hlt]
          rfl
        have HY : Hid ((s[k].toNat : Int) = ((Bm.sign (Sm.step r (Bm.isOne s[k])).2).toNat : Int)) := by
          show _ = _
          rw [HX.out, Sm.step_snd, Sm.sg_sign]
        have hp := Sm.step_pos r (Bm.isOne s[k])
        have hle := Sm.step_le r (Bm.isOne s[k])
        generalize Sm.step r (Bm.isOne s[k]) = q at *
        have hc0 := Lw.cell0 HR2.out
        have hc1 := Lw.cell1 HR2.out
        have hk1 : o.length + 1 ≤ maxLen := by unfold maxLen; omega
        clear HI HN HX
        by_cases h6 : q.1 = 6
        · have t6 : decide (5 < (q.1 : Int)) = true := by rw [h6]; rfl
          have HE : Hid (Sm.unstuff (Bm.read s.data.toList) = (o, (k : Int))) := by
            show _ = _
            rw [HI2.out, if_pos h6]
          clear HI2 HN2 h6
          go_wp2
          have z0 := frozen_of_row _ _ 0 _ _ HR2.out
          have z1 := frozen_of_row _ _ 1 _ _ HR2.out
          go_region_with fail
          all_goals
            go_wp2
            have HR3 := Lw.two_cells (a' := .int .u8 (Sm.sv q)) (b' := .int .i64 (q.1 : Int)) HR2.out
            have hb4 := (Lw.below_two (a' := .int .u8 (Sm.sv q)) (b' := .int .i64 (q.1 : Int)) hb3).drew
            have ho4 := (Lw.owns_two (a' := .int .u8 (Sm.sv q)) (b' := .int .i64 (q.1 : Int)) HO2.out).drew
            obtain ⟨w3, hw3⟩ : ∃ w3, w3 = ((w2.setCell ⟨w.heap.size, 0, none⟩ (.int .u8 (Sm.sv q))).setCell ⟨w.heap.size, 1, none⟩ (.int .i64 (q.1 : Int))).drew := ⟨_, rfl⟩
            rw [← hw3] at hb4 ho4
            have HR4 : w3.heap[w.heap.size]? = some (.cells #[.int .u8 (Sm.sv q), .int .i64 q.1] 112 (0, 0)) := by rw [hw3]; exact HR3
            rw [← hw3, Exit.noGoto_ret]
            clear hw3 HR3
            have y0 := Lw.cell0 HR4
            have y1 := Lw.cell1 HR4
            exact bodyPost_ret (v := .tuple #[u2, .agg #[.int .u8 (Sm.sv q), .int .i64 q.1], .int .i64 k]) (by simp [results, Tryz.results119, go_sem, y0, y1]) rfl ⟨u2, q, by rw [HE.out], hb4, by rw [HE.out]; exact ho4.mono (Nat.le_succ _), by rw [HE.out]; intro h; exact absurd h (by simp)⟩
        · have t6 : decide (5 < (q.1 : Int)) = false := by simp; omega
          have h6' : q.1 ≤ 5 := by omega
          cases f5
          · have h5 : ¬ r.1 = 5 := fun h => by have := hn5.out.2 h; cases this
            clear hn5
            go_wp2_with (at_builtin; refine wpList_append_own _ rfl (.tmp 29) (.tmp 33) 74 rfl (w.heap.size + 1) 5 i0 (.int .u8 0) 1 1 Tryz.underlying74 hi hz0 hz1 hz2 rfl (by decide) u2 o.length _ rfl (HO2.out.alloc _) _ 1 1 [.int .u8 (s[k].toNat : Int)] rfl rfl (cell_one_new _ _ _) (ints_oneCell .u8 [_]) hk1 (by omega) (by simp; omega) ?_; intro v3 w3 hown3 hgrow3 _; have HR3 : Hid (_) := (Lw.grow_block HO2.out hgrow3 hsz2).trans HR2.out; have g0 := Lw.cell0 HR3.out; have g1 := Lw.cell1 HR3.out; have hb4 := Lw.grow_below hb3 HO2.out hgrow3 (Nat.le_of_lt hsz2); clear hgrow3 hc0 hc1)
            have HO4 : Hid (w3.ownsRow (w.heap.size + 1) 5 1 v3 (o ++ [q.2]).length (Bm.cellsOf (Bm.row (o ++ [q.2])))) := by
              rw [HY.out] at hown3
              show World.ownsRow _ _ _ _ _ _ _
              rw [List.length_append]
              simpa [Bm.row, Bm.cellsOf] using hown3
            go_roundw
            case rel => exact ⟨k + 1, q, o ++ [q.2], by omega, by go_num, rfl, HO4, HR3, hb4, by rw [HI2.out, if_neg h6, if_neg h5]; rfl, h6', by simp; omega, HN2⟩
            case measure => simp [intOf]; omega
          · have h5 : r.1 = 5 := hn5.out.1 rfl
            clear hn5
            go_wp2
            go_roundw
            case rel => exact ⟨k + 1, q, o, by omega, by go_num, rfl, HO2, HR2, hb3, by rw [HI2.out, if_neg h6, if_pos h5]; rfl, h6', by omega, HN2⟩
            case measure => simp [intOf]; omega
    · have hlen : (Bm.read s.data.toList).length ≤ k := by rw [Bm.length_read]; simp; omega
      have HE : Hid (Sm.unstuff (Bm.read s.data.toList) = (o, -1)) := by
        show _ = _
        rw [HI.out, List.drop_of_length_le hlen]
        rfl
      have HM : Hid (r = Sm.run (0, false) (Bm.read s.data.toList)) := by
        show _ = _
        rw [HN.out, List.drop_of_length_le hlen]
        rfl
      have hc0 := Lw.cell0 HR.out
      have hc1 := Lw.cell1 HR.out
      clear HI HN hlen
      go_wp2
      have z0 := frozen_of_row _ _ 0 _ _ HR.out
      have z1 := frozen_of_row _ _ 1 _ _ HR.out
      go_region_with fail
      all_goals
        go_wp2
        have HR3 := Lw.two_cells (a' := .int .u8 (Sm.sv r)) (b' := .int .i64 (r.1 : Int)) HR.out
        have hb4 := (Lw.below_two (a' := .int .u8 (Sm.sv r)) (b' := .int .i64 (r.1 : Int)) hb).drew
        have ho4 := (Lw.owns_two (a' := .int .u8 (Sm.sv r)) (b' := .int .i64 (r.1 : Int)) HO.out).drew
        obtain ⟨w3, hw3⟩ : ∃ w3, w3 = ((wr.setCell ⟨w.heap.size, 0, none⟩ (.int .u8 (Sm.sv r))).setCell ⟨w.heap.size, 1, none⟩ (.int .i64 (r.1 : Int))).drew := ⟨_, rfl⟩
        rw [← hw3] at hb4 ho4
        have HR4 : w3.heap[w.heap.size]? = some (.cells #[.int .u8 (Sm.sv r), .int .i64 r.1] 112 (0, 0)) := by rw [hw3]; exact HR3
        rw [← hw3, Exit.noGoto_ret]
        clear hw3 HR3
        have y0 := Lw.cell0 HR4
        have y1 := Lw.cell1 HR4
        exact bodyPost_ret (v := .tuple #[u2, .agg #[.int .u8 (Sm.sv r), .int .i64 r.1], .int .i64 (-1)]) (by simp [results, Tryz.results119, go_sem, y0, y1]) rfl ⟨u2, r, by rw [HE.out], hb4, by rw [HE.out]; exact ho4.mono (Nat.le_succ _), fun _ => ⟨HM.out, hr⟩⟩
end Go.Proofs.YthkaekpoicodeaaGreatDoor
/- What Stuff of package stuff answers, over the program's own text. -/
namespace Go.Proofs.YthkaekpoicodeaaGreatDoor
open Go.RowKit
/-- a row of signs as the walk reads it -/
theorem row_data (bs : List Bool) : Bm.read (ByteArray.mk (Bm.row bs).toArray).data.toList = bs := by
  show Bm.read (Bm.row bs).toArray.toList = bs
  rw [List.toList_toArray, Bm.read_row]
theorem row_size (bs : List Bool) : (ByteArray.mk (Bm.row bs).toArray).size = bs.length := by rw [size_str, Bm.length_row]
theorem row_sign (bs : List Bool) (k : Nat) (h : k < (ByteArray.mk (Bm.row bs).toArray).size) : ((ByteArray.mk (Bm.row bs).toArray)[k].toNat : Int) = Sm.sg (Bm.isOne (ByteArray.mk (Bm.row bs).toArray)[k]) := by
  have hk : k < bs.length := by rw [← row_size bs]; exact h
  have e : (ByteArray.mk (Bm.row bs).toArray)[k] = Bm.sign bs[k] := by
    show (Bm.row bs).toArray[k]'(by simpa [Bm.length_row] using hk) = _
    simp [Bm.row]
  rw [e]
  cases bs[k] <;> decide
theorem rother_q (q : Nat × Bool) (hq : 0 < q.1) (n : Int) (w : World) :
    Calls Tryz.prog 83 #[.agg #[.int .u8 (Sm.sv q), .int .i64 n]] w fun e w' => e = .returned (.int .u8 (Sm.sg (!q.2))) ∧ Below w.heap.size w w' := by
  have e : Sm.sv q = Sm.sg q.2 := by unfold Sm.sv; rw [if_neg (by omega)]
  rw [e]
  exact rother_any q.2 n w
theorem rwith_other (q : Nat × Bool) (hq : 0 < q.1) (hn : q.1 ≤ 1048576) (w : World) :
    Calls Tryz.prog 81 #[.agg #[.int .u8 (Sm.sv q), .int .i64 q.1], .int .u8 (Sm.sg (!q.2))] w fun e w' => e = .returned (.agg #[.int .u8 (Sm.sv (1, !q.2)), .int .i64 (1 : Nat)]) ∧ Below w.heap.size w w' := by
  have e : Sm.sv q = Sm.sg q.2 := by unfold Sm.sv; rw [if_neg (by omega)]
  have e2 : Sm.sv (1, !q.2) = Sm.sg (!q.2) := by unfold Sm.sv; rw [if_neg (by simp)]
  rw [e, e2]
  refine (rwith_any _ _ (q.1 : Int) w (by omega) (by omega)).mono ?_
  rintro e w' ⟨rfl, hb⟩
  refine ⟨?_, hb⟩
  rw [if_neg (by cases q.2 <;> decide)]
  rfl
set_option maxRecDepth 100000 in
set_option maxHeartbeats 2000000 in
theorem stuff_any (s : ByteArray) (w : World) (hs : s.size ≤ 1048576) :
    Calls Tryz.prog 51 #[.string s] w fun e w' => e = .returned (.string ⟨(Bm.row (Sm.stuff (Bm.read s.data.toList))).toArray⟩) ∧ Below w.heap.size w w' := by
  obtain ⟨i0, hi, hz0, hz1, hz2⟩ := info_parts Tryz.infoU8
  obtain ⟨bs, hbs⟩ : ∃ bs, Bm.read s.data.toList = bs := ⟨_, rfl⟩
  have HL : Hid (bs.length = s.size) := by show _ = _; rw [← hbs, Bm.length_read]; simp
  have HS := fun w => signs_any s w hs
  rw [hbs] at HS
  rw [hbs]
  clear hbs
  obtain ⟨t, ht⟩ : ∃ t, t = ByteArray.mk (Bm.row bs).toArray := ⟨_, rfl⟩
  rw [← ht] at HS
  have hrow' : Hid (∀ k (h : k < t.size), (t[k].toNat : Int) = Sm.sg (Bm.isOne t[k])) := by subst ht; exact row_sign bs
  have hts : t.size = s.size := by rw [ht, row_size]; exact HL.out
  have HB : Hid (bs = Bm.read t.data.toList) := by show _ = _; rw [ht, row_data]
  rw [HB.out]
  rw [← hts] at hs
  have HS' : Hid (∀ w, Calls Tryz.prog 80 #[.string s] w fun e w' => e = .returned (.string t) ∧ Below w.heap.size w w') := HS
  clear ht HL HB hts HS
  go_enter Tryz.func51, Tryz.ntmps51
  go_wp2_with fail
  refine (HS'.out _).mono ?_
  rintro e w0 ⟨rfl, hb0⟩
  clear HS'
  go_wp2_with (at_make; refine wpList_make_own _ rfl (.const (.int .i64 0)) (.tmp 15) 74 rfl w.heap.size 5 i0 (.int .u8 0) 1 Tryz.underlying74 hi hz0 hz1 .i64 .i64 _ (t.size + t.size / 4 + 1) rfl rfl (by omega) (by rw [hz2]; omega) (by unfold maxLen; omega) hb0.size ?_; intro w1 hown1 hgrow1)
  have hb1 : Below w.heap.size w w1 := hb0.grown hgrow1 hb0.size (fun g hg => by cases hg)
  obtain ⟨E, hE⟩ : ∃ E, E = w1.heap.size := ⟨_, rfl⟩
  have hwE : w.heap.size ≤ E := by rw [hE]; exact hb1.size
  rw [← hE]
  have HO1 : Hid ((w1.alloc (.cells #[.int .u8 0, .int .i64 0] 112)).ownsRow w.heap.size 5 1 (.slice (some ⟨w0.heap.size, 0, none⟩) 0 (t.size + t.size / 4 + 1)) 0 []) := hown1.alloc _
  have HR1 : Hid ((w1.alloc (.cells #[.int .u8 0, .int .i64 0] 112)).heap[E]? = some (.cells #[.int .u8 0, .int .i64 0] 112 (0, 0))) := by rw [hE]; exact heap_alloc_new _ _
  have hb2 := hb1.alloc hb1.size (.cells #[.int .u8 0, .int .i64 0] 112)
  clear hgrow1 hown1 hE
  go_loopw [4, 19] (fun v i wr => ∃ (k : Nat) (r : Nat × Bool) (o : List Bool), k ≤ t.size ∧ i = .int .i64 k ∧ Hid (wr.ownsRow w.heap.size 5 1 v o.length (Bm.cellsOf (Bm.row o))) ∧ Hid (wr.heap[E]? = some (.cells #[.int .u8 (Sm.sv r), .int .i64 r.1] 112 (0, 0))) ∧ Below w.heap.size w wr ∧ Hid (Sm.stuff (Bm.read t.data.toList) = Sm.stB r o ((Bm.read t.data.toList).drop k)) ∧ r.1 < 5 ∧ o.length ≤ 2 * k)
    (fun _ i _ => t.size - (intOf i).toNat)
  case atStart => exact ⟨0, (0, false), [], Nat.zero_le _, rfl, HO1, HR1, hb2, rfl, by decide, by decide⟩
  case round =>
    obtain ⟨k, r, o, hk, rfl, HO, HR, hb, HI, hr, ho⟩ := hrel
    by_cases hlt : k < t.size
    · have hsz : E < wr.heap.size := (Array.getElem?_eq_some_iff.1 HR.out).1
      have hwz : w.heap.size ≤ wr.heap.size := hb.size
      have hc0 := Lw.cell0 HR.out
      have hc1 := Lw.cell1 HR.out
      have HX : Hid ((t[k].toNat : Int) = Sm.sg (Bm.isOne t[k])) := hrow'.out k hlt
      have hk1 : o.length + 1 ≤ maxLen := by unfold maxLen; omega
      have hk2 : o.length + 1 + 1 ≤ maxLen := by unfold maxLen; omega
      go_wp2_with (at_builtin; refine wpList_append_own _ rfl (.tmp 22) (.tmp 26) 74 rfl w.heap.size 5 i0 (.int .u8 0) 1 1 Tryz.underlying74 hi hz0 hz1 hz2 rfl (by decide) u4 o.length _ rfl (HO.out.alloc _) _ 1 1 [.int .u8 (t[k].toNat : Int)] rfl rfl (cell_one_new _ _ _) (ints_oneCell .u8 [_]) hk1 (by omega) (by simp; omega) ?_; intro v3 w3 hown3 hgrow3 _; have HR3 : Hid (_) := Lw.grow_block_t HO.out HR.out (by decide) hgrow3; have hb4 := Lw.grow_below_t hb HO.out hgrow3 hwz; clear hgrow3 hc0 hc1; have hc0 := Lw.cell0 HR3.out; have hc1 := Lw.cell1 HR3.out)
      have HO3 : Hid (w3.ownsRow w.heap.size 5 1 v3 (o.length + 1) (Bm.cellsOf (Bm.row o) ++ [.int .u8 (t[k].toNat : Int)])) := hown3
      clear hown3 HO HR hb hsz hwz
      have hsz : E < w3.heap.size := (Array.getElem?_eq_some_iff.1 HR3.out).1
      go_region_with (go_at_call 81; refine (rwith_step _ _ _ HX.out (by omega)).mono ?_; rintro e w4 ⟨rfl, hb5⟩; have d0 := (hb5.cell (p := ⟨E, 0, none⟩) hsz).trans hc0; have d1 := (hb5.cell (p := ⟨E, 1, none⟩) hsz).trans hc1; have f0 := (hb5.frozen (p := ⟨E, 0, none⟩) hsz).trans (frozen_of_row _ _ _ _ _ HR3.out); have f1 := (hb5.frozen (p := ⟨E, 1, none⟩) hsz).trans (frozen_of_row _ _ _ _ _ HR3.out))
      all_goals
        clear hc0 hc1 d0 d1 f0 f1
        have HR4 : Hid (w4.heap[E]? = some (.cells #[.int .u8 (Sm.sv r), .int .i64 r.1] 112 (0, 0))) := (hb5.block E hsz).trans HR3.out
        have HO4 : Hid (w4.ownsRow w.heap.size 5 1 v3 (o.length + 1) (Bm.cellsOf (Bm.row o) ++ [.int .u8 (t[k].toNat : Int)])) := Lw.owns_keep HO3.out (fun g _ hg => hb5.block g hg)
        have hb6 : Below w.heap.size w w4 := hb4.drew.trans (hb5.mono hb4.size)
        clear HR3 HO3 hb4 hb5
        obtain ⟨w5, hw5⟩ : ∃ w5, w5 = ((w4.setCell ⟨E, 0, none⟩ (.int .u8 (Sm.sv (Sm.step r (Bm.isOne t[k]))))).setCell ⟨E, 1, none⟩ (.int .i64 (Sm.step r (Bm.isOne t[k])).1)) := ⟨_, rfl⟩
        rw [← hw5]
        have HR5 : Hid (w5.heap[E]? = some (.cells #[.int .u8 (Sm.sv (Sm.step r (Bm.isOne t[k]))), .int .i64 (Sm.step r (Bm.isOne t[k])).1] 112 (0, 0))) := by
          rw [hw5]; exact Lw.two_cells HR4.out
        have HO5 : Hid (w5.ownsRow w.heap.size 5 1 v3 (o.length + 1) (Bm.cellsOf (Bm.row o) ++ [.int .u8 (t[k].toNat : Int)])) := by
          rw [hw5]; exact Lw.owns_two_t HO4.out HR4.out (by decide)
        have hb7 : Below w.heap.size w w5 := by
          rw [hw5]; exact Lw.below_two_t hwE hb6
        clear hw5 HR4 HO4 hb6 hsz
        have HI2 : Hid (Sm.stuff (Bm.read t.data.toList) = if (Sm.step r (Bm.isOne t[k])).1 = 5 then Sm.stB (1, !(Sm.step r (Bm.isOne t[k])).2) (o ++ [(Sm.step r (Bm.isOne t[k])).2, !(Sm.step r (Bm.isOne t[k])).2]) ((Bm.read t.data.toList).drop (k + 1)) else Sm.stB (Sm.step r (Bm.isOne t[k])) (o ++ [(Sm.step r (Bm.isOne t[k])).2]) ((Bm.read t.data.toList).drop (k + 1))) := by
          show _ = _
          rw [HI.out, Bm.read_drop t k hlt, Sm.step_snd]
          rfl
        have HY : Hid ((t[k].toNat : Int) = ((Bm.sign (Sm.step r (Bm.isOne t[k])).2).toNat : Int)) := by
          show _ = _
          rw [HX.out, Sm.step_snd, Sm.sg_sign]
        rw [HY.out] at HO5
        have HO6 : Hid (w5.ownsRow w.heap.size 5 1 v3 (o ++ [(Sm.step r (Bm.isOne t[k])).2]).length (Bm.cellsOf (Bm.row (o ++ [(Sm.step r (Bm.isOne t[k])).2])))) := by
          have h := HO5.out
          show World.ownsRow _ _ _ _ _ _ _
          rw [List.length_append]
          simpa [Bm.row, Bm.cellsOf] using h
        have hp := Sm.step_pos r (Bm.isOne t[k])
        have hle := Sm.step_le r (Bm.isOne t[k])
        generalize Sm.step r (Bm.isOne t[k]) = q at *
        clear HO5 HI HX HY
        have hsz : E < w5.heap.size := (Array.getElem?_eq_some_iff.1 HR5.out).1
        have hc0 := Lw.cell0 HR5.out
        have hc1 := Lw.cell1 HR5.out
        go_wp2_with fail
        refine (rfull_any _ _ _).mono ?_
        rintro e w6 ⟨rfl, hb8⟩
        have HR6 : Hid (w6.heap[E]? = some (.cells #[.int .u8 (Sm.sv q), .int .i64 q.1] 112 (0, 0))) := (hb8.block E hsz).trans HR5.out
        have HO7 : Hid (w6.ownsRow w.heap.size 5 1 v3 (o ++ [q.2]).length (Bm.cellsOf (Bm.row (o ++ [q.2])))) := Lw.owns_keep HO6.out (fun g _ hg => hb8.block g hg)
        have hb9 : Below w.heap.size w w6 := hb7.trans (hb8.mono hb7.size)
        clear hc0 hc1 HR5 HO6 hb7 hb8 hsz
        have hsz : E < w6.heap.size := (Array.getElem?_eq_some_iff.1 HR6.out).1
        have hc0 := Lw.cell0 HR6.out
        have hc1 := Lw.cell1 HR6.out
        by_cases h5 : q.1 = 5
        · have t5 : decide (5 ≤ (q.1 : Int)) = true := by rw [h5]; rfl
          rw [t5]
          have H5 : Hid (q.1 = 5) := h5
          have hq5 : q.1 ≤ 1048576 := by omega
          clear h5 t5
          go_wp2_with fail
          refine (rother_q q hp _ _).mono ?_
          rintro e w7 ⟨rfl, hb10⟩
          have HR7 : Hid (w7.heap[E]? = some (.cells #[.int .u8 (Sm.sv q), .int .i64 q.1] 112 (0, 0))) := (hb10.block E hsz).trans HR6.out
          have HO8 : Hid (w7.ownsRow w.heap.size 5 1 v3 (o ++ [q.2]).length (Bm.cellsOf (Bm.row (o ++ [q.2])))) := Lw.owns_keep HO7.out (fun g _ hg => hb10.block g hg)
          have hb11 : Below w.heap.size w w7 := hb9.trans (hb10.mono hb9.size)
          clear hc0 hc1 HR6 HO7 hb9 hb10 hsz
          have hwz : w.heap.size ≤ w7.heap.size := hb11.size
          have hll : (o ++ [q.2]).length + 1 ≤ maxLen := by simpa using hk2
          have hlb : (o ++ [q.2]).length ≤ 2097153 := by simp; omega
          go_wp2_with (at_builtin; refine wpList_append_own _ rfl (.tmp 35) (.tmp 38) 74 rfl w.heap.size 5 i0 (.int .u8 0) 1 1 Tryz.underlying74 hi hz0 hz1 hz2 rfl (by decide) v3 (o ++ [q.2]).length _ rfl (HO8.out.alloc _) _ 1 1 [.int .u8 (Sm.sg (!q.2))] rfl rfl (cell_one_new _ _ _) (ints_oneCell .u8 [_]) hll (by omega) (by simp; omega) ?_; intro v4 w8 hown8 hgrow8 _; have HR8 : Hid (_) := Lw.grow_block_t HO8.out HR7.out (by decide) hgrow8; have hb12 := Lw.grow_below_t hb11 HO8.out hgrow8 hwz; clear hgrow8; have hc0 := Lw.cell0 HR8.out; have hc1 := Lw.cell1 HR8.out)
          have HO9 : Hid (w8.ownsRow w.heap.size 5 1 v4 (o ++ [q.2, !q.2]).length (Bm.cellsOf (Bm.row (o ++ [q.2, !q.2])))) := by
            rw [Sm.sg_sign] at hown8
            show World.ownsRow _ _ _ _ _ _ _
            rw [List.length_append]
            simpa [Bm.row, Bm.cellsOf] using hown8
          clear hown8 HO8 HR7 hb11 hwz hll hlb
          have hsz : E < w8.heap.size := (Array.getElem?_eq_some_iff.1 HR8.out).1
          go_region_with (first | (go_at_call 83; refine (rother_q q hp _ _).mono ?_; rintro e w9 ⟨rfl, hb13⟩; have hsz9 : E < w9.heap.size := Nat.lt_of_lt_of_le hsz hb13.size; have d0 := (hb13.cell (p := ⟨E, 0, none⟩) hsz).trans hc0; have d1 := (hb13.cell (p := ⟨E, 1, none⟩) hsz).trans hc1; have f0 := (hb13.frozen (p := ⟨E, 0, none⟩) hsz).trans (frozen_of_row _ _ _ _ _ HR8.out); have f1 := (hb13.frozen (p := ⟨E, 1, none⟩) hsz).trans (frozen_of_row _ _ _ _ _ HR8.out)) | (go_at_call 81; refine (rwith_other q hp hq5 _).mono ?_; rintro e w10 ⟨rfl, hb14⟩; have d2 := (hb14.cell (p := ⟨E, 0, none⟩) hsz9).trans d0; have d3 := (hb14.cell (p := ⟨E, 1, none⟩) hsz9).trans d1; have f2 := (hb14.frozen (p := ⟨E, 0, none⟩) hsz9).trans f0; have f3 := (hb14.frozen (p := ⟨E, 1, none⟩) hsz9).trans f1))
          all_goals
            clear hc0 hc1 d0 d1 f0 f1 d2 d3 f2 f3
            have HR9 : w9.heap[E]? = some (.cells #[.int .u8 (Sm.sv q), .int .i64 q.1] 112 (0, 0)) := (hb13.block E hsz).trans HR8.out
            have HR10 : w10.heap[E]? = some (.cells #[.int .u8 (Sm.sv q), .int .i64 q.1] 112 (0, 0)) := (hb14.block E hsz9).trans HR9
            have HO10 := Lw.owns_keep HO9.out.drew (fun g _ hg => hb13.block g hg)
            have HO11 := Lw.owns_keep HO10 (fun g _ hg => hb14.block g hg)
            have hb15 : Below w.heap.size w w9 := hb12.drew.trans (hb13.mono hb12.size)
            have hb16 : Below w.heap.size w w10 := hb15.trans (hb14.mono hb15.size)
            have HR11 : Hid (((w10.setCell ⟨E, 0, none⟩ (.int .u8 (Sm.sv (1, !q.2)))).setCell ⟨E, 1, none⟩ (.int .i64 (1 : Nat))).heap[E]? = some (.cells #[.int .u8 (Sm.sv (1, !q.2)), .int .i64 (1 : Nat)] 112 (0, 0))) := Lw.two_cells HR10
            have HO12 : Hid (((w10.setCell ⟨E, 0, none⟩ (.int .u8 (Sm.sv (1, !q.2)))).setCell ⟨E, 1, none⟩ (.int .i64 (1 : Nat))).ownsRow w.heap.size 5 1 v4 (o ++ [q.2, !q.2]).length (Bm.cellsOf (Bm.row (o ++ [q.2, !q.2])))) := Lw.owns_two_t HO11 HR10 (by decide)
            have hb17 := Lw.below_two_t (a' := .int .u8 (Sm.sv (1, !q.2))) (b' := .int .i64 (1 : Nat)) hwE hb16
            clear HR9 HR10 HO10 HO11 hb15 hb16 hb13 hb14 hb12 HR8 HO9
            go_wp2
            go_roundw
            case rel => exact ⟨k + 1, (1, !q.2), o ++ [q.2, !q.2], by omega, by go_num, HO12, HR11, hb17, by rw [HI2.out, if_pos H5.out]; rfl, by simp, by simp; omega⟩
            case measure => simp [intOf]; omega
        · have t5 : decide (5 ≤ (q.1 : Int)) = false := by simp; omega
          rw [t5]
          go_wp2
          go_roundw
          case rel => exact ⟨k + 1, q, o ++ [q.2], by omega, by go_num, HO7, HR6, hb9, by rw [HI2.out, if_neg h5]; rfl, by omega, by simp; omega⟩
          case measure => simp [intOf]; omega
    · have hcv := conv_own HO.out
      have HE : Hid (Sm.stuff (Bm.read t.data.toList) = o) := by
        show _ = _
        rw [HI.out, List.drop_of_length_le (by rw [Bm.length_read]; simp; omega)]
        rfl
      rw [← HE.out] at hcv
      clear HO HR HI
      go_wp2
      go_ret
      exact ⟨rfl, hb⟩
end Go.Proofs.YthkaekpoicodeaaGreatDoor
/- What Unstuff of package stuff answers, over the program's own text. -/
namespace Go.Proofs.YthkaekpoicodeaaGreatDoor
open Go.RowKit
set_option maxRecDepth 100000 in
set_option maxHeartbeats 1000000 in
theorem unstuff_any (s : ByteArray) (w : World) (hs : s.size ≤ 1048576) :
    Calls Tryz.prog 115 #[.string s] w fun e w' => e = .returned (.tuple #[.string ⟨(Bm.row (Sm.unstuff (Bm.read s.data.toList)).1).toArray⟩, .int .i64 (Sm.unstuff (Bm.read s.data.toList)).2]) ∧ Below w.heap.size w w' := by
  have HS := fun w => signs_any s w hs
  have HL : (Bm.read s.data.toList).length = s.size := by rw [Bm.length_read]; simp
  have HW := fun w => walk_any (ByteArray.mk (Bm.row (Bm.read s.data.toList)).toArray) w (by rw [row_size, HL]; exact hs) (row_sign _)
  rw [row_data] at HW
  clear HL
  generalize Bm.read s.data.toList = bs at *
  generalize ByteArray.mk (Bm.row bs).toArray = t at *
  generalize Sm.run (0, false) bs = rr at *
  generalize Sm.unstuff bs = u at *
  have HS' : Hid (∀ w, Calls Tryz.prog 80 #[.string s] w fun e w' => e = .returned (.string t) ∧ Below w.heap.size w w') := HS
  have HW' : Hid (∀ w, Calls Tryz.prog 119 #[.string t] w fun e w' => ∃ (v : Value) (r : Nat × Bool), e = .returned (.tuple #[v, .agg #[.int .u8 (Sm.sv r), .int .i64 r.1], .int .i64 u.2]) ∧ Below w.heap.size w w' ∧ w'.ownsRow w.heap.size 5 1 v u.1.length (Bm.cellsOf (Bm.row u.1)) ∧ (u.2 < 0 → r = rr ∧ r.1 ≤ 5)) := HW
  clear HS HW
  go_enter Tryz.func115, Tryz.ntmps115
  go_wp2_with fail
  refine (HS'.out _).mono ?_
  rintro e w0 ⟨rfl, hb0⟩
  go_wp2_with fail
  refine (HW'.out _).mono ?_
  rintro e w1 ⟨v, r, rfl, hb1, hown, _⟩
  have hb2 := below_join hb0 hb1
  clear HS' HW' hb0 hb1
  have hcv := conv_own (hown.alloc (.cells #[.int .u8 (Sm.sv r), .int .i64 r.1] 112))
  clear hown
  go_wp2
  go_ret2
  exact ⟨rfl, hb2.alloc hb2.size _⟩
end Go.Proofs.YthkaekpoicodeaaGreatDoor
