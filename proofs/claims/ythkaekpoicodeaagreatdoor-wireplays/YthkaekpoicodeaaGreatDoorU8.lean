/- What the document's own run, with and other, answers, over their text. -/
import Derived.Test.YthkaekpoicodeaaGreatDoorRows
import Derived.Test.YthkaekpoicodeaaGreatDoorU1
import Derived.Test.YthkaekpoicodeaaGreatDoorU2
import Derived.WalkKit
import Derived.WalkSpells
import Derived.WalkLawsBesides
import Derived.Handy
import Derived.Test.YthkaekpoicodeaaGreatDoorU5
import Derived.Deep.QuietTactic
import Derived.BigQuiet
namespace Go.Proofs.YthkaekpoicodeaaGreatDoor
open Go.RowKit
set_option maxHeartbeats 1000000 in
theorem refwith_any (n : Nat) (x c : Int) (w : World) (hn : n ≤ 1048576) :
    Calls Tryz.prog 100 #[.agg #[.int .i64 n, .int .u8 x], .int .u8 c] w fun e w' => e = .returned (.agg #[.int .i64 (Sm.wn n x c), .int .u8 (Sm.wb c)]) ∧ Below w.heap.size w w' := by
  by_cases hc : c = 49
  · by_cases h0 : 0 < n
    · by_cases hx : x = 49
      · have e1 : Sm.wn n x c = (n : Int) + 1 := by unfold Sm.wn Sm.wb; rw [if_pos hc, if_pos ⟨by omega, hx⟩]
        have e2 : Sm.wb c = 49 := by unfold Sm.wb; rw [if_pos hc]
        rw [e1, e2]
        have t1 : (c != 49) = false := by simp [hc]
        have t2 : (x == c) = true := by rw [hx, hc]; rfl
        clear e1 e2
        go_enter Tryz.func100, Tryz.ntmps100
        go_wp2
        exact bodyPost_ret (v := .agg #[.int .i64 ((n : Int) + 1), .int .u8 49]) (by simp [results, Tryz.results100, go_sem]) rfl ⟨rfl, ((Below.refl _ _).alloc (Nat.le_refl _) _).alloc (by simp) _⟩
      · have e1 : Sm.wn n x c = 1 := by unfold Sm.wn Sm.wb; rw [if_pos hc, if_neg (fun h => hx h.2)]
        have e2 : Sm.wb c = 49 := by unfold Sm.wb; rw [if_pos hc]
        rw [e1, e2]
        have t1 : (c != 49) = false := by simp [hc]
        have t2 : (x == c) = false := by rw [hc]; simp [hx]
        clear e1 e2
        go_enter Tryz.func100, Tryz.ntmps100
        go_wp2
        exact bodyPost_ret (v := .agg #[.int .i64 (1), .int .u8 49]) (by simp [results, Tryz.results100, go_sem]) rfl ⟨rfl, ((Below.refl _ _).alloc (Nat.le_refl _) _).alloc (by simp) _⟩
    · have e1 : Sm.wn n x c = 1 := by unfold Sm.wn Sm.wb; rw [if_pos hc, if_neg (fun h => by omega)]
      have e2 : Sm.wb c = 49 := by unfold Sm.wb; rw [if_pos hc]
      rw [e1, e2]
      have t1 : (c != 49) = false := by simp [hc]
      clear e1 e2
      go_enter Tryz.func100, Tryz.ntmps100
      go_wp2
      exact bodyPost_ret (v := .agg #[.int .i64 (1), .int .u8 49]) (by simp [results, Tryz.results100, go_sem]) rfl ⟨rfl, ((Below.refl _ _).alloc (Nat.le_refl _) _).alloc (by simp) _⟩
  · by_cases h0 : 0 < n
    · by_cases hx : x = 48
      · have e1 : Sm.wn n x c = (n : Int) + 1 := by unfold Sm.wn Sm.wb; rw [if_neg hc, if_pos ⟨by omega, hx⟩]
        have e2 : Sm.wb c = 48 := by unfold Sm.wb; rw [if_neg hc]
        rw [e1, e2]
        have t1 : (c != 49) = true := by simp [hc]
        have t2 : (x == 48) = true := by simp [hx]
        clear e1 e2
        go_enter Tryz.func100, Tryz.ntmps100
        go_wp2
        exact bodyPost_ret (v := .agg #[.int .i64 ((n : Int) + 1), .int .u8 48]) (by simp [results, Tryz.results100, go_sem]) rfl ⟨rfl, ((Below.refl _ _).alloc (Nat.le_refl _) _).alloc (by simp) _⟩
      · have e1 : Sm.wn n x c = 1 := by unfold Sm.wn Sm.wb; rw [if_neg hc, if_neg (fun h => hx h.2)]
        have e2 : Sm.wb c = 48 := by unfold Sm.wb; rw [if_neg hc]
        rw [e1, e2]
        have t1 : (c != 49) = true := by simp [hc]
        have t2 : (x == 48) = false := by simp [hx]
        clear e1 e2
        go_enter Tryz.func100, Tryz.ntmps100
        go_wp2
        exact bodyPost_ret (v := .agg #[.int .i64 (1), .int .u8 48]) (by simp [results, Tryz.results100, go_sem]) rfl ⟨rfl, ((Below.refl _ _).alloc (Nat.le_refl _) _).alloc (by simp) _⟩
    · have e1 : Sm.wn n x c = 1 := by unfold Sm.wn Sm.wb; rw [if_neg hc, if_neg (fun h => by omega)]
      have e2 : Sm.wb c = 48 := by unfold Sm.wb; rw [if_neg hc]
      rw [e1, e2]
      have t1 : (c != 49) = true := by simp [hc]
      clear e1 e2
      go_enter Tryz.func100, Tryz.ntmps100
      go_wp2
      exact bodyPost_ret (v := .agg #[.int .i64 (1), .int .u8 48]) (by simp [results, Tryz.results100, go_sem]) rfl ⟨rfl, ((Below.refl _ _).alloc (Nat.le_refl _) _).alloc (by simp) _⟩

set_option maxHeartbeats 400000 in
theorem refother_any (c : Int) (w : World) :
    Calls Tryz.prog 101 #[.int .u8 c] w fun e w' => e = .returned (.int .u8 (Sm.ob c)) ∧ w' = w := by
  unfold Sm.ob
  by_cases h : c = 49
  · have hb : (c == 49) = true := by simp [h]
    rw [if_pos h]
    clear h
    go_enter Tryz.func101, Tryz.ntmps101
    go_wp2
    go_ret
    exact ⟨rfl, rfl⟩
  · have hb : (c == 49) = false := by simp [h]
    rw [if_neg h]
    go_enter Tryz.func101, Tryz.ntmps101
    go_wp2
    go_ret
    exact ⟨rfl, rfl⟩
end Go.Proofs.YthkaekpoicodeaaGreatDoor
/- What the document's own Stuff answers, over its text. -/
namespace Go.Proofs.YthkaekpoicodeaaGreatDoor
open Go.RowKit
set_option maxRecDepth 100000 in
set_option maxHeartbeats 1000000 in
theorem rstuff_any (s : ByteArray) (w : World) (hs : s.size ≤ 1048576) :
    Calls Tryz.prog 69 #[.string s] w fun e w' => e = .returned (.string ⟨(Bm.row (Sm.stuff (Bm.read s.data.toList))).toArray⟩) ∧ Below w.heap.size w w' := by
  obtain ⟨i0, hi, hz0, hz1, hz2⟩ := info_parts Tryz.infoU8
  go_enter Tryz.func69, Tryz.ntmps69
  go_wp2
  go_loopw [3, 5] (fun v i wr => ∃ (k : Nat) (r : Nat × Bool) (o : List Bool), k ≤ s.size ∧ i = .int .i64 k ∧ Hid (wr.ownsRow (w.heap.size + 1) 5 1 v o.length (Bm.cellsOf (Bm.row o))) ∧ Hid (wr.heap[w.heap.size]? = some (.cells #[.int .i64 r.1, .int .u8 (Sm.sv r)] 127 (0, 0))) ∧ Below w.heap.size w wr ∧ Hid (Sm.stuff (Bm.read s.data.toList) = Sm.stB r o ((Bm.read s.data.toList).drop k)) ∧ r.1 < 5 ∧ o.length ≤ 2 * k)
    (fun _ i _ => s.size - (intOf i).toNat)
  case atStart => exact ⟨0, (0, false), [], Nat.zero_le _, rfl, World.ownsRow_nil _ _ _ _, heap_alloc_new _ _, (Below.refl _ _).alloc (Nat.le_refl _) _, rfl, by decide, by decide⟩
  case round =>
    obtain ⟨k, r, o, hk, rfl, HO, HR, hb, HI, hr, ho⟩ := hrel
    by_cases hlt : k < s.size
    · have hsz : w.heap.size < wr.heap.size := (Array.getElem?_eq_some_iff.1 HR.out).1
      have hc0 : wr.cell? ⟨w.heap.size, 0, none⟩ = some (.int .i64 r.1) := by rw [cell_of_row _ _ _ _ _ _ HR.out]; rfl
      have hc1 : wr.cell? ⟨w.heap.size, 1, none⟩ = some (.int .u8 (Sm.sv r)) := by rw [cell_of_row _ _ _ _ _ _ HR.out]; rfl
      go_wp2_with fail
      go_region_with (go_at_call 100; refine (refwith_any _ _ _ _ (by omega)).mono ?_; rintro e w1 ⟨rfl, hb1⟩; have d0 := (hb1.cell (p := ⟨w.heap.size, 0, none⟩) hsz).trans hc0; have d1 := (hb1.cell (p := ⟨w.heap.size, 1, none⟩) hsz).trans hc1; have f0 := (hb1.frozen (p := ⟨w.heap.size, 0, none⟩) hsz).trans (frozen_of_row _ _ _ _ _ HR.out); have f1 := (hb1.frozen (p := ⟨w.heap.size, 1, none⟩) hsz).trans (frozen_of_row _ _ _ _ _ HR.out))
      all_goals
        clear hc0 hc1 d0 d1 f0 f1
        have HR1 : Hid (w1.heap[w.heap.size]? = some (.cells #[.int .i64 r.1, .int .u8 (Sm.sv r)] 127 (0, 0))) := (hb1.block w.heap.size hsz).trans HR.out
        have HO1 : Hid (w1.ownsRow (w.heap.size + 1) 5 1 u3 o.length (Bm.cellsOf (Bm.row o))) := Lw.owns_keep HO.out (fun g _ hg => hb1.block g hg)
        have hb2 : Below w.heap.size w w1 := hb.drew.trans (hb1.mono (Nat.le_of_lt hsz))
        have HW : Hid (Sm.wn (r.1 : Int) (Sm.sv r) (s[k].toNat : Int) = ((Sm.step r (Bm.isOne s[k])).1 : Int)) := Sm.wn_step r s[k]
        have HB : Hid (Sm.wb (s[k].toNat : Int) = Sm.sv (Sm.step r (Bm.isOne s[k]))) := Sm.sv_step r s[k]
        rw [HW.out, HB.out]
        clear HR HO hb hb1 HW HB
        obtain ⟨w2, hw2⟩ : ∃ w2, w2 = ((w1.setCell ⟨w.heap.size, 0, none⟩ (.int .i64 (Sm.step r (Bm.isOne s[k])).1)).setCell ⟨w.heap.size, 1, none⟩ (.int .u8 (Sm.sv (Sm.step r (Bm.isOne s[k]))))) := ⟨_, rfl⟩
        rw [← hw2]
        have HR2 : Hid (w2.heap[w.heap.size]? = some (.cells #[.int .i64 (Sm.step r (Bm.isOne s[k])).1, .int .u8 (Sm.sv (Sm.step r (Bm.isOne s[k])))] 127 (0, 0))) := by
          rw [hw2]; exact Lw.two_cells HR1.out
        have HO2 : Hid (w2.ownsRow (w.heap.size + 1) 5 1 u3 o.length (Bm.cellsOf (Bm.row o))) := by
          rw [hw2]; exact Lw.owns_keep HO1.out (fun g hg _ => Lw.two_other (by omega))
        have hb3 : Below w.heap.size w w2 := by
          rw [hw2]; exact (hb2.setCell (Nat.le_refl _) _).setCell (Nat.le_refl _) _
        clear hw2 HR1 HO1 hb2 hsz
        have hsz2 : w.heap.size < w2.heap.size := (Array.getElem?_eq_some_iff.1 HR2.out).1
        have HI2 : Hid (Sm.stuff (Bm.read s.data.toList) = if (Sm.step r (Bm.isOne s[k])).1 = 5 then Sm.stB (1, !(Sm.step r (Bm.isOne s[k])).2) (o ++ [(Sm.step r (Bm.isOne s[k])).2, !(Sm.step r (Bm.isOne s[k])).2]) ((Bm.read s.data.toList).drop (k + 1)) else Sm.stB (Sm.step r (Bm.isOne s[k])) (o ++ [(Sm.step r (Bm.isOne s[k])).2]) ((Bm.read s.data.toList).drop (k + 1))) := by
          show _ = _
          rw [HI.out, Bm.read_drop s k hlt, Sm.step_snd]
          rfl
        have hp := Sm.step_pos r (Bm.isOne s[k])
        have hle := Sm.step_le r (Bm.isOne s[k])
        generalize Sm.step r (Bm.isOne s[k]) = q at *
        have hc0 := Lw.cell0 HR2.out
        have hc1 := Lw.cell1 HR2.out
        have hk1 : o.length + 1 ≤ maxLen := by unfold maxLen; omega
        clear HI
        by_cases h5 : q.1 = 5
        · have t5 : ((q.1 : Int) == 5) = true := by rw [h5]; rfl
          have hk2 : o.length + 1 + 1 ≤ maxLen := by unfold maxLen; omega
          have HOB : Hid (Sm.ob (Sm.sv q) = Sm.sv (1, !q.2)) := Sm.ob_sv q hp
          go_wp2_with (first | (at_builtin; refine wpList_append_own _ rfl (.tmp 18) (.tmp 21) 74 rfl (w.heap.size + 1) 5 i0 (.int .u8 0) 1 1 Tryz.underlying74 hi hz0 hz1 hz2 rfl (by decide) u3 o.length _ rfl (HO2.out.alloc _) _ 1 1 [.int .u8 (Sm.sv q)] rfl rfl (cell_one_new _ _ _) (ints_oneCell .u8 [_]) hk1 (by omega) (by simp; omega) ?_; intro v3 w3 hown3 hgrow3 _; have HR3 : Hid (_) := (Lw.grow_block HO2.out hgrow3 hsz2).trans HR2.out; have g0 := Lw.cell0 HR3.out; have g1 := Lw.cell1 HR3.out; have hb4 := Lw.grow_below hb3 HO2.out hgrow3 (Nat.le_of_lt hsz2); clear hgrow3 hc0 hc1; have hsz3 : w.heap.size < w3.heap.size := (Array.getElem?_eq_some_iff.1 HR3.out).1; have fz0 := frozen_of_row _ _ 0 _ _ HR3.out; have fz1 := frozen_of_row _ _ 1 _ _ HR3.out) | (go_at_call 101; refine (refother_any _ _).mono ?_; rintro e w5 ⟨rfl, rfl⟩; rw [HOB.out]) | (at_builtin; refine wpList_append_own _ rfl (.tmp 30) (.tmp 33) 74 rfl (w.heap.size + 1) 5 i0 (.int .u8 0) 1 1 Tryz.underlying74 hi hz0 hz1 hz2 rfl (by decide) v3 (o.length + 1) _ rfl (World.ownsRow.alloc (Lw.owns_two hown3) _) _ 1 1 [.int .u8 (Sm.sv (1, !q.2))] rfl rfl Lw.one_new_two (ints_oneCell .u8 [_]) hk2 (by omega) (by simp; omega) ?_; intro v4 w4 hown4 hgrow4 _))
          have HR5 : Hid (w4.heap[w.heap.size]? = some (.cells #[.int .i64 (1 : Nat), .int .u8 (Sm.sv (1, !q.2))] 127 (0, 0))) := (Lw.grow_block (Lw.owns_two hown3) hgrow4 (by rw [Lw.size_two]; exact hsz3)).trans (Lw.two_cells HR3.out)
          have hb5 : Below w.heap.size w w4 := Lw.grow_below (Lw.below_two hb4) (Lw.owns_two hown3) hgrow4 (by rw [Lw.size_two]; exact Nat.le_of_lt hsz3)
          have HO5 : Hid (w4.ownsRow (w.heap.size + 1) 5 1 v4 (o ++ [q.2, !q.2]).length (Bm.cellsOf (Bm.row (o ++ [q.2, !q.2])))) := by
            rw [Sm.sv_sign q hp, Sm.sv_sign (1, !q.2) (by simp)] at hown4
            show World.ownsRow _ _ _ _ _ _ _
            rw [List.length_append]
            simpa [Bm.row, Bm.cellsOf] using hown4
          clear hgrow4 hown4 hown3
          go_roundw
          case rel => exact ⟨k + 1, (1, !q.2), o ++ [q.2, !q.2], by omega, by go_num, HO5, HR5, hb5, by rw [HI2.out, if_pos h5]; rfl, by simp, by simp; omega⟩
          case measure => simp [intOf]; omega
        · have t5 : ((q.1 : Int) == 5) = false := by simp; omega
          go_wp2_with (at_builtin; refine wpList_append_own _ rfl (.tmp 18) (.tmp 21) 74 rfl (w.heap.size + 1) 5 i0 (.int .u8 0) 1 1 Tryz.underlying74 hi hz0 hz1 hz2 rfl (by decide) u3 o.length _ rfl (HO2.out.alloc _) _ 1 1 [.int .u8 (Sm.sv q)] rfl rfl (cell_one_new _ _ _) (ints_oneCell .u8 [_]) hk1 (by omega) (by simp; omega) ?_; intro v3 w3 hown3 hgrow3 _; have HR3 : Hid (_) := (Lw.grow_block HO2.out hgrow3 hsz2).trans HR2.out; have g0 := Lw.cell0 HR3.out; have g1 := Lw.cell1 HR3.out; have hb4 := Lw.grow_below hb3 HO2.out hgrow3 (Nat.le_of_lt hsz2); clear hgrow3 hc0 hc1; have hsz3 : w.heap.size < w3.heap.size := (Array.getElem?_eq_some_iff.1 HR3.out).1; have fz0 := frozen_of_row _ _ 0 _ _ HR3.out; have fz1 := frozen_of_row _ _ 1 _ _ HR3.out)
          have HO4 : Hid (w3.ownsRow (w.heap.size + 1) 5 1 v3 (o ++ [q.2]).length (Bm.cellsOf (Bm.row (o ++ [q.2])))) := by
            rw [Sm.sv_sign q hp] at hown3
            show World.ownsRow _ _ _ _ _ _ _
            rw [List.length_append]
            simpa [Bm.row, Bm.cellsOf] using hown3
          go_roundw
          case rel => exact ⟨k + 1, q, o ++ [q.2], by omega, by go_num, HO4, HR3, hb4, by rw [HI2.out, if_neg h5]; rfl, by omega, by simp; omega⟩
          case measure => simp [intOf]; omega
    · have hcv := conv_own HO.out
      have HE : Hid (Sm.stuff (Bm.read s.data.toList) = o) := by
        show _ = _
        rw [HI.out, List.drop_of_length_le (by rw [Bm.length_read]; simp; omega)]
        rfl
      rw [← HE.out] at hcv
      clear HO HR HI
      go_wp2
      go_ret
      exact ⟨rfl, hb⟩
end Go.Proofs.YthkaekpoicodeaaGreatDoor
/- What the document's own Unstuff answers, over its text. -/
namespace Go.Proofs.YthkaekpoicodeaaGreatDoor
open Go.RowKit
set_option maxRecDepth 100000 in
set_option maxHeartbeats 1000000 in
theorem runstuff_any (s : ByteArray) (w : World) (hs : s.size ≤ 1048576) :
    Calls Tryz.prog 96 #[.string s] w fun e w' => e = .returned (.tuple #[.string ⟨(Bm.row (Sm.unstuff (Bm.read s.data.toList)).1).toArray⟩, .int .i64 (Sm.unstuff (Bm.read s.data.toList)).2]) ∧ Below w.heap.size w w' := by
  obtain ⟨i0, hi, hz0, hz1, hz2⟩ := info_parts Tryz.infoU8
  go_enter Tryz.func96, Tryz.ntmps96
  go_wp2
  go_loopw [4, 6] (fun v i wr => ∃ (k : Nat) (r : Nat × Bool) (o : List Bool), k ≤ s.size ∧ i = .int .i64 k ∧ Hid (wr.ownsRow (w.heap.size + 1) 5 1 v o.length (Bm.cellsOf (Bm.row o))) ∧ Hid (wr.heap[w.heap.size]? = some (.cells #[.int .i64 r.1, .int .u8 (Sm.sv r)] 127 (0, 0))) ∧ Below w.heap.size w wr ∧ Hid (Sm.unstuff (Bm.read s.data.toList) = Sm.unB r o k ((Bm.read s.data.toList).drop k)) ∧ r.1 ≤ 5 ∧ o.length ≤ k)
    (fun _ i _ => s.size - (intOf i).toNat)
  case atStart => exact ⟨0, (0, false), [], Nat.zero_le _, rfl, World.ownsRow_nil _ _ _ _, heap_alloc_new _ _, (Below.refl _ _).alloc (Nat.le_refl _) _, rfl, by decide, by decide⟩
  case round =>
    obtain ⟨k, r, o, hk, rfl, HO, HR, hb, HI, hr, ho⟩ := hrel
    by_cases hlt : k < s.size
    · have hsz : w.heap.size < wr.heap.size := (Array.getElem?_eq_some_iff.1 HR.out).1
      have hc0 : wr.cell? ⟨w.heap.size, 0, none⟩ = some (.int .i64 r.1) := by rw [cell_of_row _ _ _ _ _ _ HR.out]; rfl
      have hc1 : wr.cell? ⟨w.heap.size, 1, none⟩ = some (.int .u8 (Sm.sv r)) := by rw [cell_of_row _ _ _ _ _ _ HR.out]; rfl
      obtain ⟨f5, hf5⟩ : ∃ f5, ((r.1 : Int) == 5) = f5 := ⟨_, rfl⟩
      go_wp2_with fail
      go_region_with (go_at_call 100; refine (refwith_any _ _ _ _ (by omega)).mono ?_; rintro e w1 ⟨rfl, hb1⟩; have d0 := (hb1.cell (p := ⟨w.heap.size, 0, none⟩) hsz).trans hc0; have d1 := (hb1.cell (p := ⟨w.heap.size, 1, none⟩) hsz).trans hc1; have f0 := (hb1.frozen (p := ⟨w.heap.size, 0, none⟩) hsz).trans (frozen_of_row _ _ _ _ _ HR.out); have f1 := (hb1.frozen (p := ⟨w.heap.size, 1, none⟩) hsz).trans (frozen_of_row _ _ _ _ _ HR.out))
      all_goals
        clear hc0 hc1 d0 d1 f0 f1
        have HR1 : Hid (w1.heap[w.heap.size]? = some (.cells #[.int .i64 r.1, .int .u8 (Sm.sv r)] 127 (0, 0))) := (hb1.block w.heap.size hsz).trans HR.out
        have HO1 : Hid (w1.ownsRow (w.heap.size + 1) 5 1 u4 o.length (Bm.cellsOf (Bm.row o))) := Lw.owns_keep HO.out (fun g _ hg => hb1.block g hg)
        have hb2 : Below w.heap.size w w1 := hb.drew.trans (hb1.mono (Nat.le_of_lt hsz))
        have HW : Hid (Sm.wn (r.1 : Int) (Sm.sv r) (s[k].toNat : Int) = ((Sm.step r (Bm.isOne s[k])).1 : Int)) := Sm.wn_step r s[k]
        have HB : Hid (Sm.wb (s[k].toNat : Int) = Sm.sv (Sm.step r (Bm.isOne s[k]))) := Sm.sv_step r s[k]
        rw [HW.out, HB.out]
        clear HR HO hb hb1 HW HB
        obtain ⟨w2, hw2⟩ : ∃ w2, w2 = ((w1.setCell ⟨w.heap.size, 0, none⟩ (.int .i64 (Sm.step r (Bm.isOne s[k])).1)).setCell ⟨w.heap.size, 1, none⟩ (.int .u8 (Sm.sv (Sm.step r (Bm.isOne s[k]))))) := ⟨_, rfl⟩
        rw [← hw2]
        have HR2 : Hid (w2.heap[w.heap.size]? = some (.cells #[.int .i64 (Sm.step r (Bm.isOne s[k])).1, .int .u8 (Sm.sv (Sm.step r (Bm.isOne s[k])))] 127 (0, 0))) := by
          rw [hw2]; exact Lw.two_cells HR1.out
        have HO2 : Hid (w2.ownsRow (w.heap.size + 1) 5 1 u4 o.length (Bm.cellsOf (Bm.row o))) := by
          rw [hw2]; exact Lw.owns_keep HO1.out (fun g hg _ => Lw.two_other (by omega))
        have hb3 : Below w.heap.size w w2 := by
          rw [hw2]; exact (hb2.setCell (Nat.le_refl _) _).setCell (Nat.le_refl _) _
        clear hw2 HR1 HO1 hb2 hsz
        have hsz2 : w.heap.size < w2.heap.size := (Array.getElem?_eq_some_iff.1 HR2.out).1
        have HI2 : Hid (Sm.unstuff (Bm.read s.data.toList) = if (Sm.step r (Bm.isOne s[k])).1 = 6 then (o, (k : Int)) else Sm.unB (Sm.step r (Bm.isOne s[k])) (if r.1 = 5 then o else o ++ [(Sm.step r (Bm.isOne s[k])).2]) (k + 1) ((Bm.read s.data.toList).drop (k + 1))) := by
          show _ = _
          rw [HI.out, Bm.read_drop s k hlt, Sm.step_snd]
          rfl
        have hp := Sm.step_pos r (Bm.isOne s[k])
        have hle := Sm.step_le r (Bm.isOne s[k])
        generalize Sm.step r (Bm.isOne s[k]) = q at *
        have hc0 := Lw.cell0 HR2.out
        have hc1 := Lw.cell1 HR2.out
        have hk1 : o.length + 1 ≤ maxLen := by unfold maxLen; omega
        clear HI
        by_cases h6 : q.1 = 6
        · have t6 : ((q.1 : Int) == 6) = true := by rw [h6]; rfl
          have HE : Hid (Sm.unstuff (Bm.read s.data.toList) = (o, (k : Int))) := by
            show _ = _
            rw [HI2.out, if_pos h6]
          have hcv := conv_own HO2.out
          clear HI2 HO2
          go_wp2
          go_ret2
          refine ⟨?_, hb3⟩
          rw [HE.out]
          rfl
        · have t6 : ((q.1 : Int) == 6) = false := by simp; omega
          cases f5
          · have h5 : ¬ r.1 = 5 := by simp at hf5; omega
            clear hf5
            go_wp2_with (at_builtin; refine wpList_append_own _ rfl (.tmp 31) (.tmp 34) 74 rfl (w.heap.size + 1) 5 i0 (.int .u8 0) 1 1 Tryz.underlying74 hi hz0 hz1 hz2 rfl (by decide) u4 o.length _ rfl (HO2.out.alloc _) _ 1 1 [.int .u8 (Sm.sv q)] rfl rfl (cell_one_new _ _ _) (ints_oneCell .u8 [_]) hk1 (by omega) (by simp; omega) ?_; intro v3 w3 hown3 hgrow3 _; have HR3 : Hid (_) := (Lw.grow_block HO2.out hgrow3 hsz2).trans HR2.out; have g0 := Lw.cell0 HR3.out; have g1 := Lw.cell1 HR3.out; have hb4 := Lw.grow_below hb3 HO2.out hgrow3 (Nat.le_of_lt hsz2); clear hgrow3 hc0 hc1; have hsz3 : w.heap.size < w3.heap.size := (Array.getElem?_eq_some_iff.1 HR3.out).1; have fz0 := frozen_of_row _ _ 0 _ _ HR3.out; have fz1 := frozen_of_row _ _ 1 _ _ HR3.out)
            have HO4 : Hid (w3.ownsRow (w.heap.size + 1) 5 1 v3 (o ++ [q.2]).length (Bm.cellsOf (Bm.row (o ++ [q.2])))) := by
              rw [Sm.sv_sign q hp] at hown3
              show World.ownsRow _ _ _ _ _ _ _
              rw [List.length_append]
              simpa [Bm.row, Bm.cellsOf] using hown3
            go_roundw
            case rel => exact ⟨k + 1, q, o ++ [q.2], by omega, by go_num, HO4, HR3, hb4, by rw [HI2.out, if_neg h6, if_neg h5]; rfl, by omega, by simp; omega⟩
            case measure => simp [intOf]; omega
          · have h5 : r.1 = 5 := by simp at hf5; omega
            clear hf5
            go_wp2
            go_roundw
            case rel => exact ⟨k + 1, q, o, by omega, by go_num, HO2, HR2, hb3, by rw [HI2.out, if_neg h6, if_pos h5]; rfl, by omega, by omega⟩
            case measure => simp [intOf]; omega
    · have hcv := conv_own HO.out
      have HE : Hid (Sm.unstuff (Bm.read s.data.toList) = (o, -1)) := by
        show _ = _
        rw [HI.out, List.drop_of_length_le (by rw [Bm.length_read]; simp; omega)]
        rfl
      clear HO HR HI
      go_wp2
      go_ret2
      refine ⟨?_, hb⟩
      rw [HE.out]
      rfl
end Go.Proofs.YthkaekpoicodeaaGreatDoor
/- What the document own Next answers, over its text. -/

namespace Go.Proofs.YthkaekpoicodeaaGreatDoor
open Go.RowKit
set_option maxRecDepth 100000 in
set_option maxHeartbeats 1000000 in
theorem rnext_any (s : ByteArray) (w : World) (hs : s.size ≤ 1048576) :
    Calls Tryz.prog 95 #[.string s] w fun e w' => e = .returned (.int .i64 (Sm.next (Bm.read s.data.toList))) ∧ Below w.heap.size w w' := by
  by_cases hneg : 0 ≤ (Sm.unstuff (Bm.read s.data.toList)).2
  · have HE : Hid (Sm.next (Bm.read s.data.toList) = -2) := Sm.next_six _ hneg
    go_enter Tryz.func95, Tryz.ntmps95
    go_wp2_with fail
    refine (runstuff_any s _ hs).mono ?_; rintro e w0 ⟨rfl, hb0⟩
    go_wp2_with fail
    go_ret
    exact ⟨ret_int HE.out.symm, hb0⟩
  · have hneg' : (Sm.unstuff (Bm.read s.data.toList)).2 < 0 := by omega
    go_enter Tryz.func95, Tryz.ntmps95
    go_wp2_with fail
    refine (runstuff_any s _ hs).mono ?_; rintro e w0 ⟨rfl, hb0⟩
    go_wp2_with fail
    obtain ⟨B, hB⟩ : ∃ B, B = w0.heap.size := ⟨_, rfl⟩
    rw [← hB]
    go_loopw [6] (fun i wr => ∃ (k : Nat) (r : Nat × Bool), k ≤ s.size ∧ i = .int .i64 k ∧ Hid (wr.heap[B]? = some (.cells #[.int .i64 r.1, .int .u8 (Sm.sv r)] 127 (0, 0))) ∧ Below w.heap.size w wr ∧ Hid (Sm.run (0, false) (Bm.read s.data.toList) = Sm.run r ((Bm.read s.data.toList).drop k)) ∧ r.1 ≤ k)
      (fun i _ => s.size - (intOf i).toNat)
    case atStart => exact ⟨0, (0, false), Nat.zero_le _, rfl, by rw [hB]; exact heap_alloc_new _ _, hb0.alloc hb0.size _, rfl, by decide⟩
    case round =>
      obtain ⟨k, r, hk, rfl, HR, hb, HI, hr⟩ := hrel
      have hwB : w.heap.size ≤ B := by have := hb0.size; omega
      have hsz : B < wr.heap.size := (Array.getElem?_eq_some_iff.1 HR.out).1
      have hc0 : wr.cell? ⟨B, 0, none⟩ = some (.int .i64 r.1) := by rw [cell_of_row _ _ _ _ _ _ HR.out]; rfl
      have hc1 : wr.cell? ⟨B, 1, none⟩ = some (.int .u8 (Sm.sv r)) := by rw [cell_of_row _ _ _ _ _ _ HR.out]; rfl
      clear hB
      by_cases hlt : k < s.size
      · go_wp2_with fail
        go_region_with (go_at_call 100; refine (refwith_any _ _ _ _ (by omega)).mono ?_; rintro e w1 ⟨rfl, hb1⟩; have d0 := (hb1.cell (p := ⟨B, 0, none⟩) hsz).trans hc0; have d1 := (hb1.cell (p := ⟨B, 1, none⟩) hsz).trans hc1; have f0 := (hb1.frozen (p := ⟨B, 0, none⟩) hsz).trans (frozen_of_row _ _ _ _ _ HR.out); have f1 := (hb1.frozen (p := ⟨B, 1, none⟩) hsz).trans (frozen_of_row _ _ _ _ _ HR.out))
        all_goals
          clear hc0 hc1 d0 d1 f0 f1
          have HR1 : Hid (w1.heap[B]? = some (.cells #[.int .i64 r.1, .int .u8 (Sm.sv r)] 127 (0, 0))) := (hb1.block B hsz).trans HR.out
          have hb2 : Below w.heap.size w w1 := hb.drew.trans (hb1.mono (by exact Nat.le_of_lt (Nat.lt_of_le_of_lt hwB hsz)))
          have HW : Hid (Sm.wn (r.1 : Int) (Sm.sv r) (s[k].toNat : Int) = ((Sm.step r (Bm.isOne s[k])).1 : Int)) := Sm.wn_step r s[k]
          have HB : Hid (Sm.wb (s[k].toNat : Int) = Sm.sv (Sm.step r (Bm.isOne s[k]))) := Sm.sv_step r s[k]
          rw [HW.out, HB.out]
          clear HR hb hb1 HW HB
          obtain ⟨w2, hw2⟩ : ∃ w2, w2 = ((w1.setCell ⟨B, 0, none⟩ (.int .i64 (Sm.step r (Bm.isOne s[k])).1)).setCell ⟨B, 1, none⟩ (.int .u8 (Sm.sv (Sm.step r (Bm.isOne s[k]))))) := ⟨_, rfl⟩
          rw [← hw2]
          have HR2 : Hid (w2.heap[B]? = some (.cells #[.int .i64 (Sm.step r (Bm.isOne s[k])).1, .int .u8 (Sm.sv (Sm.step r (Bm.isOne s[k])))] 127 (0, 0))) := by
            rw [hw2]; exact Lw.two_cells HR1.out
          have hb3 : Below w.heap.size w w2 := by
            rw [hw2]; exact (hb2.setCell hwB _).setCell hwB _
          have HI2 : Hid (Sm.run (0, false) (Bm.read s.data.toList) = Sm.run (Sm.step r (Bm.isOne s[k])) ((Bm.read s.data.toList).drop (k + 1))) := by
            show _ = _
            rw [HI.out, Bm.read_drop s k hlt]
            rfl
          have hle := Sm.step_le r (Bm.isOne s[k])
          clear hw2 HR1 hb2 hsz HI
          generalize Sm.step r (Bm.isOne s[k]) = q at *
          go_wp2
          go_roundw
          case rel => exact ⟨k + 1, q, by omega, by go_num, HR2, hb3, HI2, by omega⟩
          case measure => simp [intOf]; omega
      · have HE : Hid (Sm.run (0, false) (Bm.read s.data.toList) = r) := by
          show _ = _
          rw [HI.out, List.drop_of_length_le (by rw [Bm.length_read]; simp; omega)]
          rfl
        have HN : Hid (Sm.next (Bm.read s.data.toList) = if r.1 = 5 then (if r.2 = true then 0 else 1) else -1) := by
          show _ = _
          unfold Sm.next
          rw [if_neg (by omega), HE.out]
        clear HI HE HR
        by_cases h5 : r.1 = 5
        · have t5 : ((r.1 : Int) != 5) = false := by simp; omega
          have HS : Hid (Sm.sv r = Sm.sg r.2) := by show _ = _; unfold Sm.sv; rw [if_neg (by omega)]
          rw [HS.out] at hc1
          cases hq : r.2
          · rw [hq] at hc1
            have e1 : Sm.sg false = 48 := rfl
            rw [e1] at hc1
            go_wp2
            go_ret
            exact ⟨ret_int (by rw [HN.out, if_pos h5, hq]; rfl), hb⟩
          · rw [hq] at hc1
            have e1 : Sm.sg true = 49 := rfl
            rw [e1] at hc1
            go_wp2
            go_ret
            exact ⟨ret_int (by rw [HN.out, if_pos h5, hq]; rfl), hb⟩
        · have t5 : ((r.1 : Int) != 5) = true := by simp; omega
          go_wp2
          go_ret
          exact ⟨ret_int (by rw [HN.out, if_neg h5]), hb⟩
end Go.Proofs.YthkaekpoicodeaaGreatDoor
/- What the document's own Is, Arb, Body of frames answer, over their text. -/
namespace Go.Proofs.YthkaekpoicodeaaGreatDoor
open Go.RowKit
theorem isEmpty_data (d : ByteArray) : d.toList.isEmpty = d.data.toList.isEmpty := by rw [ByteArray.toList_eq]
theorem isF_dec (x : Bool) (n : Nat) (r : Bool) (d : ByteArray) : Fm.isF x n r d.data.toList = (decide ((n : Int) < if x then 536870912 else 2048) && (decide ((d.size : Int) ≤ 8) && (!r || d.toList.isEmpty))) := by
  rw [isEmpty_data]
  unfold Fm.isF Fm.top
  have e1 : decide (n < if x = true then 536870912 else 2048) = decide ((n : Int) < if x = true then 536870912 else 2048) := by
    cases x
    · exact decide_eq_decide.2 (by simp only [Bool.false_eq_true, if_false]; omega)
    · exact decide_eq_decide.2 (by simp only [if_true]; omega)
  have e2 : decide (d.data.toList.length ≤ 8) = decide ((d.size : Int) ≤ 8) := decide_eq_decide.2 (by rw [show d.data.toList.length = d.size from by simp]; omega)
  rw [e1, e2]
set_option maxRecDepth 100000 in
set_option maxHeartbeats 1000000 in
theorem refFIs_any (x : Bool) (n : Nat) (r : Bool) (d : ByteArray) (w : World) :
    Calls Tryz.prog 22 #[.agg #[.bool x, .int .u32 n, .bool r, .string d]] w fun e w' => e = .returned (.bool (Fm.isF x n r d.data.toList)) ∧ Below w.heap.size w w' := by
  have HV : Hid (_) := isF_dec x n r d
  generalize Fm.isF x n r d.data.toList = res at *
  cases x
  · have hx : (if false = true then (536870912 : Int) else 2048) = 2048 := rfl
    rw [hx] at HV
    clear hx
    cases h1 : decide ((n : Int) < 2048)
    · have hv : Hid (res = false) := by show _ = _; rw [HV.out, h1]; rfl
      go_enter Tryz.func22, Tryz.ntmps22
      go_wp2
      go_ret
      exact ⟨ret_bool hv.out.symm, (Below.refl _ _).alloc (Nat.le_refl _) _⟩
    · cases h2 : decide ((d.size : Int) ≤ 8)
      · have hv : Hid (res = false) := by show _ = _; rw [HV.out, h1, h2]; rfl
        go_enter Tryz.func22, Tryz.ntmps22
        go_wp2
        go_ret
        exact ⟨ret_bool hv.out.symm, (Below.refl _ _).alloc (Nat.le_refl _) _⟩
      · cases r
        · have hv : Hid (res = true) := by show _ = _; rw [HV.out, h1, h2]; rfl
          go_enter Tryz.func22, Tryz.ntmps22
          go_wp2
          go_ret
          exact ⟨ret_bool hv.out.symm, (Below.refl _ _).alloc (Nat.le_refl _) _⟩
        · have hv : Hid (res = d.toList.isEmpty) := by show _ = _; rw [HV.out, h1, h2]; rfl
          go_enter Tryz.func22, Tryz.ntmps22
          go_wp2
          go_ret
          exact ⟨ret_bool hv.out.symm, (Below.refl _ _).alloc (Nat.le_refl _) _⟩
  · have hx : (if true = true then (536870912 : Int) else 2048) = 536870912 := rfl
    rw [hx] at HV
    clear hx
    cases h1 : decide ((n : Int) < 536870912)
    · have hv : Hid (res = false) := by show _ = _; rw [HV.out, h1]; rfl
      go_enter Tryz.func22, Tryz.ntmps22
      go_wp2
      go_ret
      exact ⟨ret_bool hv.out.symm, (Below.refl _ _).alloc (Nat.le_refl _) _⟩
    · cases h2 : decide ((d.size : Int) ≤ 8)
      · have hv : Hid (res = false) := by show _ = _; rw [HV.out, h1, h2]; rfl
        go_enter Tryz.func22, Tryz.ntmps22
        go_wp2
        go_ret
        exact ⟨ret_bool hv.out.symm, (Below.refl _ _).alloc (Nat.le_refl _) _⟩
      · cases r
        · have hv : Hid (res = true) := by show _ = _; rw [HV.out, h1, h2]; rfl
          go_enter Tryz.func22, Tryz.ntmps22
          go_wp2
          go_ret
          exact ⟨ret_bool hv.out.symm, (Below.refl _ _).alloc (Nat.le_refl _) _⟩
        · have hv : Hid (res = d.toList.isEmpty) := by show _ = _; rw [HV.out, h1, h2]; rfl
          go_enter Tryz.func22, Tryz.ntmps22
          go_wp2
          go_ret
          exact ⟨ret_bool hv.out.symm, (Below.refl _ _).alloc (Nat.le_refl _) _⟩
end Go.Proofs.YthkaekpoicodeaaGreatDoor
/- What the document's own Arb, Body of frames answer, over their text. -/
namespace Go.Proofs.YthkaekpoicodeaaGreatDoor
open Go.RowKit
theorem below_drewN {B : Nat} {a b : World} (h : Below B a b) (n : Nat) : Below B a (b.drewN n) := h.trans ⟨rfl, rfl, rfl, Nat.le_refl _, fun _ _ => rfl⟩
theorem mk_row_app (a b : List Bool) : ByteArray.mk (Bm.row (a ++ b)).toArray = ByteArray.mk (Bm.row a).toArray ++ ByteArray.mk (Bm.row b).toArray := by
  rw [Bm.str_app]; simp [Bm.row]
theorem arb_std (n : Nat) (r : Bool) : ByteArray.mk (Bm.row (Fm.arb0 false n r)).toArray = ByteArray.mk #[48] ++ ByteArray.mk (Bm.row (Bm.ofB n 11)).toArray ++ ByteArray.mk #[Bm.sign r] ++ ByteArray.mk #[48] := by
  have e : Fm.arb0 false n r = (([false] ++ Bm.ofB n 11) ++ [r]) ++ [false] := by unfold Fm.arb0; simp
  rw [e, mk_row_app, mk_row_app, mk_row_app]
  rfl
theorem arb_ext (n : Nat) (r : Bool) : ByteArray.mk (Bm.row (Fm.arb0 true n r)).toArray = ByteArray.mk #[48] ++ ByteArray.mk (Bm.row (Bm.ofB (n / 262144) 11)).toArray ++ ByteArray.mk #[49, 49] ++ ByteArray.mk (Bm.row (Bm.ofB n 18)).toArray ++ ByteArray.mk #[Bm.sign r] := by
  have e : Fm.arb0 true n r = ((([false] ++ Bm.ofB (n / 262144) 11) ++ [true, true]) ++ Bm.ofB n 18) ++ [r] := by unfold Fm.arb0; simp
  rw [e, mk_row_app, mk_row_app, mk_row_app, mk_row_app]
  rfl
theorem size_ofB (n k : Nat) : (ByteArray.mk (Bm.row (Bm.ofB n k)).toArray).size = k := by rw [size_str, Bm.length_row, Bm.length_ofB]
theorem refOf_k (n k : Nat) (hk : k ≤ 64) (hn : n < 18446744073709551616) (w : World) (x : Int) (hx : x = (k : Int)) (y : Int) (hy : y = (n : Int)) :
    Calls Tryz.prog 99 #[.int .u64 y, .int .i64 x] w fun e w' => e = .returned (.string ⟨(Bm.row (Bm.ofB n k)).toArray⟩) ∧ w' = w := by
  subst hx hy
  have h := refOf_any n (k : Int) w hn
  rw [show Bm.clamp (k : Int) = k from by unfold Bm.clamp; omega] at h
  exact h
set_option maxRecDepth 100000 in
set_option maxHeartbeats 1000000 in
theorem refFArb_any (x : Bool) (n : Nat) (r : Bool) (d : ByteArray) (w : World) (hn : n < 4294967296) :
    Calls Tryz.prog 70 #[.agg #[.bool x, .int .u32 n, .bool r, .string d]] w fun e w' => e = .returned (.string ⟨(Bm.row (Fm.arb x n r d.data.toList)).toArray⟩) ∧ Below w.heap.size w w' := by
  have HI : Hid (∀ w, Calls Tryz.prog 22 #[.agg #[.bool x, .int .u32 n, .bool r, .string d]] w fun e w' => e = .returned (.bool (Fm.isF x n r d.data.toList)) ∧ Below w.heap.size w w') := fun w => refFIs_any x n r d w
  have HA : Hid (Fm.arb x n r d.data.toList = if Fm.isF x n r d.data.toList then Fm.arb0 x n r else []) := rfl
  generalize Fm.arb x n r d.data.toList = res at *
  generalize Fm.isF x n r d.data.toList = b at *
  cases b
  · have HE : Hid (res = []) := HA.out
    go_enter Tryz.func70, Tryz.ntmps70
    go_wp2_with fail
    refine (HI.out _).mono ?_
    rintro e w1 ⟨rfl, hb1⟩
    have hb2 := below_join ((Below.refl _ _).alloc (Nat.le_refl _) _) hb1
    go_wp2
    go_ret
    exact ⟨by rw [HE.out]; rfl, hb2⟩
  · have HE : Hid (res = Fm.arb0 x n r) := HA.out
    clear HA
    go_enter Tryz.func70, Tryz.ntmps70
    go_wp2_with fail
    refine (HI.out _).mono ?_
    rintro e w1 ⟨rfl, hb1⟩
    have c0 : w1.cell? ⟨w.heap.size, 0, none⟩ = some (.bool x) := (hb1.cell (p := ⟨w.heap.size, 0, none⟩) (by simp)).trans (by rw [cell_of_row _ _ _ _ _ _ (heap_alloc_new _ _)]; rfl)
    have c1 : w1.cell? ⟨w.heap.size, 1, none⟩ = some (.int .u32 n) := (hb1.cell (p := ⟨w.heap.size, 1, none⟩) (by simp)).trans (by rw [cell_of_row _ _ _ _ _ _ (heap_alloc_new _ _)]; rfl)
    have c2 : w1.cell? ⟨w.heap.size, 2, none⟩ = some (.bool r) := (hb1.cell (p := ⟨w.heap.size, 2, none⟩) (by simp)).trans (by rw [cell_of_row _ _ _ _ _ _ (heap_alloc_new _ _)]; rfl)
    have hb2 := below_join ((Below.refl _ _).alloc (Nat.le_refl _) _) hb1
    clear hb1 HI
    go_wp2_with fail
    refine (refBit_any _ _).mono ?_
    rintro e w2 ⟨rfl, rfl⟩
    cases x
    · have HF : Hid (_) := arb_std n r
      have hA := size_ofB n 11
      go_wp2_with fail
      refine (refOf_k n 11 (by decide) (by omega) _ _ rfl _ rfl).mono ?_
      rintro e w3 ⟨rfl, rfl⟩
      generalize ByteArray.mk (Bm.row (Bm.ofB n 11)).toArray = A at *
      go_wp2
      go_ret
      exact ⟨by rw [HE.out, HF.out]; rfl, hb2⟩
    · have HF : Hid (_) := arb_ext n r
      have hA := size_ofB (n / 262144) 11
      have hB := size_ofB n 18
      have H1 : Hid (∀ w, Calls Tryz.prog 99 #[.int .u64 ((n : Int) / 262144), .int .i64 11] w fun e w' => e = .returned (.string ⟨(Bm.row (Bm.ofB (n / 262144) 11)).toArray⟩) ∧ w' = w) := fun w => refOf_k (n / 262144) 11 (by decide) (by omega) w _ rfl _ (by omega)
      have H2 : Hid (∀ w, Calls Tryz.prog 99 #[.int .u64 (n : Int), .int .i64 18] w fun e w' => e = .returned (.string ⟨(Bm.row (Bm.ofB n 18)).toArray⟩) ∧ w' = w) := fun w => refOf_k n 18 (by decide) (by omega) w _ rfl _ rfl
      generalize ByteArray.mk (Bm.row (Bm.ofB (n / 262144) 11)).toArray = A at *
      generalize ByteArray.mk (Bm.row (Bm.ofB n 18)).toArray = B at *
      go_wp2_with fail
      go_quiet (first | (go_at_call_of 99 (Value.int IntKind.i64 11); exact Calls.quiet_of_same (H1.out _)) | (go_at_call_of 99 (Value.int IntKind.i64 18); exact Calls.quiet_of_same (H2.out _)))
      all_goals
        go_wp2
        go_ret
        exact ⟨by rw [HE.out, HF.out]; rfl, below_drewN hb2 _⟩
theorem body_cat (x : Bool) (n : Nat) (r : Bool) (d : List UInt8) : ByteArray.mk (Bm.row (Fm.body0 x n r d)).toArray = (if x then ByteArray.mk (Bm.row (Fm.arb0 x n r)).toArray ++ ByteArray.mk #[48] ++ ByteArray.mk #[48] else ByteArray.mk (Bm.row (Fm.arb0 x n r)).toArray ++ ByteArray.mk #[48]) ++ ByteArray.mk (Bm.row (Bm.ofB d.length 4)).toArray ++ ByteArray.mk (Bm.row (Bm.fromB d)).toArray := by
  have e : Fm.body0 x n r d = ((Fm.arb0 x n r ++ (if x then [false, false] else [false])) ++ Bm.ofB d.length 4) ++ Bm.fromB d := by unfold Fm.body0; simp
  rw [e, mk_row_app, mk_row_app, mk_row_app]
  cases x
  · rfl
  · rw [if_pos rfl, if_pos rfl, ByteArray.append_assoc]
    rfl
theorem size_arb0 (x : Bool) (n : Nat) (r : Bool) : (ByteArray.mk (Bm.row (Fm.arb0 x n r)).toArray).size = if x then 33 else 14 := by rw [size_str, Bm.length_row, Fm.length_arb0]
theorem size_fromB (d : List UInt8) : (ByteArray.mk (Bm.row (Bm.fromB d)).toArray).size = 8 * d.length := by rw [size_str, Bm.length_row, Bm.length_fromB]
set_option maxRecDepth 100000 in
set_option maxHeartbeats 1000000 in
theorem refFBody_any (x : Bool) (n : Nat) (r : Bool) (d : ByteArray) (w : World) (hn : n < 4294967296) :
    Calls Tryz.prog 98 #[.agg #[.bool x, .int .u32 n, .bool r, .string d]] w fun e w' => e = .returned (.string ⟨(Bm.row (Fm.body x n r d.data.toList)).toArray⟩) ∧ Below w.heap.size w w' := by
  have HI : Hid (∀ w, Calls Tryz.prog 22 #[.agg #[.bool x, .int .u32 n, .bool r, .string d]] w fun e w' => e = .returned (.bool (Fm.isF x n r d.data.toList)) ∧ Below w.heap.size w w') := fun w => refFIs_any x n r d w
  have HJ : Hid (∀ w, Calls Tryz.prog 70 #[.agg #[.bool x, .int .u32 n, .bool r, .string d]] w fun e w' => e = .returned (.string ⟨(Bm.row (Fm.arb x n r d.data.toList)).toArray⟩) ∧ Below w.heap.size w w') := fun w => refFArb_any x n r d w hn
  have HA : Hid (Fm.body x n r d.data.toList = if Fm.isF x n r d.data.toList then Fm.body0 x n r d.data.toList else []) := rfl
  have HQ : Hid (Fm.isF x n r d.data.toList = true → d.size ≤ 8) := fun h => by simpa using (Fm.isF_parts h).2.1
  have HB : Hid (Fm.arb x n r d.data.toList = if Fm.isF x n r d.data.toList then Fm.arb0 x n r else []) := rfl
  generalize Fm.body x n r d.data.toList = res at *
  generalize Fm.arb x n r d.data.toList = ar at *
  generalize Fm.isF x n r d.data.toList = b at *
  cases b
  · have HE : Hid (res = []) := HA.out
    go_enter Tryz.func98, Tryz.ntmps98
    go_wp2_with fail
    refine (HI.out _).mono ?_
    rintro e w1 ⟨rfl, hb1⟩
    have hb2 := below_join ((Below.refl _ _).alloc (Nat.le_refl _) _) hb1
    go_wp2
    go_ret
    exact ⟨by rw [HE.out]; rfl, hb2⟩
  · have HE : Hid (res = Fm.body0 x n r d.data.toList) := HA.out
    have HG : Hid (ar = Fm.arb0 x n r) := HB.out
    have h8 : d.size ≤ 8 := HQ.out rfl
    clear HA HB HQ
    go_enter Tryz.func98, Tryz.ntmps98
    go_wp2_with fail
    refine (HI.out _).mono ?_
    rintro e w1 ⟨rfl, hb1⟩
    have c0 : w1.cell? ⟨w.heap.size, 0, none⟩ = some (.bool x) := (hb1.cell (p := ⟨w.heap.size, 0, none⟩) (by simp)).trans (by rw [cell_of_row _ _ _ _ _ _ (heap_alloc_new _ _)]; rfl)
    have c1 : w1.cell? ⟨w.heap.size, 1, none⟩ = some (.int .u32 n) := (hb1.cell (p := ⟨w.heap.size, 1, none⟩) (by simp)).trans (by rw [cell_of_row _ _ _ _ _ _ (heap_alloc_new _ _)]; rfl)
    have c2 : w1.cell? ⟨w.heap.size, 2, none⟩ = some (.bool r) := (hb1.cell (p := ⟨w.heap.size, 2, none⟩) (by simp)).trans (by rw [cell_of_row _ _ _ _ _ _ (heap_alloc_new _ _)]; rfl)
    have c3 : w1.cell? ⟨w.heap.size, 3, none⟩ = some (.string d) := (hb1.cell (p := ⟨w.heap.size, 3, none⟩) (by simp)).trans (by rw [cell_of_row _ _ _ _ _ _ (heap_alloc_new _ _)]; rfl)
    have hz1 : w.heap.size < w1.heap.size := Nat.lt_of_lt_of_le (by simp) hb1.size
    have hb2 := below_join ((Below.refl _ _).alloc (Nat.le_refl _) _) hb1
    clear hb1 HI
    go_wp2_with fail
    refine (HJ.out _).mono ?_
    rintro e w2 ⟨rfl, hb3⟩
    have d0 := (hb3.cell (p := ⟨w.heap.size, 0, none⟩) hz1).trans c0
    have d3 := (hb3.cell (p := ⟨w.heap.size, 3, none⟩) hz1).trans c3
    have hb4 := below_join hb2 hb3
    clear hb3 hb2 c0 c1 c2 c3 hz1 HJ
    rw [HG.out]
    clear HG
    have HF : Hid (_) := body_cat x n r d.data.toList
    have hA := size_arb0 x n r
    have hB := size_ofB d.size 4
    have hC := size_fromB d.data.toList
    have hdl : d.data.toList.length = d.size := by simp
    rw [hdl] at hC HF
    have H1 : Hid (∀ w, Calls Tryz.prog 99 #[.int .u64 (d.size : Int), .int .i64 4] w fun e w' => e = .returned (.string ⟨(Bm.row (Bm.ofB d.size 4)).toArray⟩) ∧ w' = w) := fun w => refOf_k d.size 4 (by decide) (by omega) w _ rfl _ rfl
    have H2 : Hid (∀ w, Calls Tryz.prog 114 #[.string d] w fun e w' => e = .returned (.string ⟨(Bm.row (Bm.fromB d.data.toList)).toArray⟩) ∧ w' = w) := fun w => refFrom_any d w (by omega)
    generalize ByteArray.mk (Bm.row (Fm.arb0 x n r)).toArray = A at *
    generalize ByteArray.mk (Bm.row (Bm.ofB d.size 4)).toArray = B at *
    generalize ByteArray.mk (Bm.row (Bm.fromB d.data.toList)).toArray = C at *
    clear hdl
    cases x
    · rw [if_neg (by decide)] at hA HF
      go_wp2_with fail
      go_quiet (first | (go_at_call 99; exact Calls.quiet_of_same (H1.out _)) | (go_at_call 114; exact Calls.quiet_of_same (H2.out _)))
      all_goals
        go_wp2
        go_ret
        exact ⟨by rw [HE.out, HF.out]; rfl, below_drewN hb4 _⟩
    · rw [if_pos rfl] at hA HF
      go_wp2_with fail
      go_quiet (first | (go_at_call 99; exact Calls.quiet_of_same (H1.out _)) | (go_at_call 114; exact Calls.quiet_of_same (H2.out _)))
      all_goals
        go_wp2
        go_ret
        exact ⟨by rw [HE.out, HF.out]; rfl, below_drewN hb4 _⟩
end Go.Proofs.YthkaekpoicodeaaGreatDoor
/- What the document's own Parse of frames answers, over its text. -/
namespace Go.Proofs.YthkaekpoicodeaaGreatDoor
open Go.RowKit
theorem refNum_cut (s : ByteArray) (i j : Nat) (hj : j ≤ s.size) (hs : s.size ≤ 1048576) (w : World) :
    Calls Tryz.prog 64 #[.string (s.extract i j)] w fun e w' => e = .returned (.int .u64 (Bm.num (Fm.cut (Bm.read s.data.toList) i (j - i)))) ∧ w' = w := by
  have h := refNum_any (s.extract i j) w (by unfold maxLen; simp; omega)
  rw [Fm.read_extract] at h
  exact h
theorem refBytes_cut (s : ByteArray) (i l : Nat) (hj : i + l ≤ s.size) (hs : s.size ≤ 1048576) (w : World) :
    Calls Tryz.prog 113 #[.string (s.extract i (i + l))] w fun e w' => e = .returned (.string ⟨(Bm.bytes (Fm.cut (Bm.read s.data.toList) i l)).toArray⟩) ∧ Below w.heap.size w w' := by
  have h := refBytes_any (s.extract i (i + l)) w (by simp; omega)
  rw [Fm.read_extract, Nat.add_sub_cancel_left] at h
  exact h
theorem or_join (a b : Nat) (ha : a < 2048) (hb : b < 262144) : bits .or .u32 ((a : Int) * 262144) (b : Int) = ((a * 262144 + b : Nat) : Int) := by
  have e : ((a : Int) * 262144) = ((a * 262144 : Nat) : Int) := by simp
  rw [e, u32_or_nat _ _ (by omega) (by omega)]
  congr 1
  have h := Nat.two_pow_add_eq_or_of_lt (i := 18) (b := b) (by simpa using hb) a
  rw [Nat.mul_comm a 262144]
  exact h.symm
def fv (p : (Bool × Nat × Bool × List UInt8) × Nat × Nat) : Value := .tuple #[.agg #[.bool p.1.1, .int .u32 p.1.2.1, .bool p.1.2.2.1, .string ⟨p.1.2.2.2.toArray⟩], .int .i64 p.2.1, .int .i64 p.2.2]
theorem set1 {w : World} {g : Nat} {a b c d : Value} {t : TypeId} (h : w.heap[g]? = some (.cells #[a, b, c, d] t (0, 0))) (v : Value) : (w.setCell ⟨g, 1, none⟩ v).heap[g]? = some (.cells #[a, v, c, d] t (0, 0)) := by
  rw [heap_setCell_same _ _ _ _ _ _ h]; rfl
theorem set2 {w : World} {g : Nat} {a b c d : Value} {t : TypeId} (h : w.heap[g]? = some (.cells #[a, b, c, d] t (0, 0))) (v : Value) : (w.setCell ⟨g, 2, none⟩ v).heap[g]? = some (.cells #[a, b, v, d] t (0, 0)) := by
  rw [heap_setCell_same _ _ _ _ _ _ h]; rfl
set_option maxRecDepth 100000 in
set_option maxHeartbeats 8000000 in
theorem refFParse_ext (s : ByteArray) (w : World) (hs : s.size ≤ 1048576) (c5 : ¬ s.size < 33) (q0 : (Bm.read s.data.toList).getD 0 false = false) (q13 : (Bm.read s.data.toList).getD 13 false = true) (q12 : (Bm.read s.data.toList).getD 12 false = true) :
    Calls Tryz.prog 97 #[.string s] w fun e w' => e = .returned (fv (Fm.parse (Bm.read s.data.toList))) ∧ Below w.heap.size w w' := by
  have hlen : (Bm.read s.data.toList).length = s.size := by rw [Bm.length_read]; simp
  have HN : Hid (∀ i j w, j ≤ s.size → Calls Tryz.prog 64 #[.string (s.extract i j)] w fun e w' => e = .returned (.int .u64 (Bm.num (Fm.cut (Bm.read s.data.toList) i (j - i)))) ∧ w' = w) := fun i j w h => refNum_cut s i j h hs w
  obtain ⟨r, hr⟩ : ∃ r, (Bm.read s.data.toList).getD 32 false = r := ⟨_, rfl⟩
  have h0 := Fm.one_dec s 0 (by omega)
  have h12 := Fm.one_dec s 12 (by omega)
  have h13 := Fm.one_dec s 13 (by omega)
  have h32 := Fm.one_dec s 32 (by omega)
  rw [q0] at h0
  rw [q12] at h12
  rw [q13] at h13
  rw [hr] at h32
  have HE : Hid (Fm.parse (Bm.read s.data.toList) = Fm.parseL (Bm.read s.data.toList) true (Bm.num (Fm.cut (Bm.read s.data.toList) 1 11) * 262144 + Bm.num (Fm.cut (Bm.read s.data.toList) 14 18)) r 35) := by
    show _ = _
    unfold Fm.parse
    rw [hlen, if_neg (by omega), q0, if_neg (by decide), if_neg (by omega), q13, if_pos rfl, q12, if_pos rfl, if_neg (by omega), hr]
  have N1' : Hid (∀ w, Calls Tryz.prog 64 #[.string (s.extract 1 12)] w fun e w' => e = .returned (.int .u64 (Bm.num (Fm.cut (Bm.read s.data.toList) 1 11))) ∧ w' = w) := fun w => HN.out 1 12 w (by omega)
  have N2' : Hid (∀ w, Calls Tryz.prog 64 #[.string (s.extract 14 32)] w fun e w' => e = .returned (.int .u64 (Bm.num (Fm.cut (Bm.read s.data.toList) 14 18))) ∧ w' = w) := fun w => HN.out 14 32 w (by omega)
  have L1 : Bm.num (Fm.cut (Bm.read s.data.toList) 1 11) < 2048 := Fm.num_cut (Bm.read s.data.toList) 1 11
  have L2 : Bm.num (Fm.cut (Bm.read s.data.toList) 14 18) < 262144 := Fm.num_cut (Bm.read s.data.toList) 14 18
  generalize Fm.parse (Bm.read s.data.toList) = res at *
  generalize Bm.num (Fm.cut (Bm.read s.data.toList) 1 11) = n1 at *
  generalize Bm.num (Fm.cut (Bm.read s.data.toList) 14 18) = n2 at *
  have HO : bits .or .u32 ((n1 : Int) * 262144) (n2 : Int) = ((n1 * 262144 + n2 : Nat) : Int) := or_join n1 n2 L1 L2
  have hn : n1 * 262144 + n2 < 536870912 := by omega
  obtain ⟨n, hne⟩ : ∃ n, n = n1 * 262144 + n2 := ⟨_, rfl⟩
  rw [← hne] at HE HO hn
  clear hne q0 q12 q13 hr
  go_enter Tryz.func97, Tryz.ntmps97
  go_wp2_with fail
  refine (N1'.out _).mono ?_
  rintro e w1 ⟨rfl, rfl⟩
  go_wp2_with fail
  refine Lw.region_tail 9 (by kernel_rfl) (by kernel_rfl) ?_
  intro w1 hw1
  have hb1 : Below w.heap.size w w1 := hw1 ▸ (((Below.refl _ _).alloc (Nat.le_refl _) _).alloc (by simp) _).drew
  have HA1 : Hid (w1.heap[w.heap.size]? = some (.cells #[.bool false, .int .u32 0, .bool false, .string ⟨#[]⟩] 35 (0, 0))) := by subst hw1; exact heap_alloc2_old _ _ _
  have HB1 : Hid (w1.heap[w.heap.size + 1]? = some (.cells #[.bool true, .int .u32 n1, .bool false, .string ⟨#[]⟩] 35 (0, 0))) := by subst hw1; exact heap_alloc2_new _ _ _
  clear hw1
  obtain ⟨x0, x1, x2, x3, v0, v1, v2, v3⟩ := four_cells HA1.out
  obtain ⟨y0, y1, y2, y3, z0, z1, z2, z3⟩ := four_cells HB1.out
  simp only [List.take_succ_cons, List.take_zero, List.drop_succ_cons, List.drop_zero]
  have hs32 : (32 : Int) ≤ (s.size : Int) := by omega
  have hw1 : IntKind.u32.wrap ((n1 : Int) * 262144) = (n1 : Int) * 262144 := by rw [IntKind.wrap_u32]; omega
  have hw2 : IntKind.u32.wrap (n2 : Int) = (n2 : Int) := by rw [IntKind.wrap_u32]; omega
  repeat (first | still_step | still_call (N2'.out _))
  clear hs32 hw1 hw2
  refine wpStill_nil ?_
  have HA4 : Hid (((w1.setCell ⟨w.heap.size + 1, 1, none⟩ (.int .u32 n)).setCell ⟨w.heap.size + 1, 2, none⟩ (.bool r)).heap[w.heap.size]? = some (.cells #[.bool false, .int .u32 0, .bool false, .string ⟨#[]⟩] 35 (0, 0))) := by
    show _ = _
    rw [heap_setCell_other _ ⟨w.heap.size + 1, 2, none⟩ w.heap.size _ (Nat.ne_of_lt (Nat.lt_succ_self _)), heap_setCell_other _ ⟨w.heap.size + 1, 1, none⟩ w.heap.size _ (Nat.ne_of_lt (Nat.lt_succ_self _))]
    exact HA1.out
  have HB4 : Hid (((w1.setCell ⟨w.heap.size + 1, 1, none⟩ (.int .u32 n)).setCell ⟨w.heap.size + 1, 2, none⟩ (.bool r)).heap[w.heap.size + 1]? = some (.cells #[.bool true, .int .u32 n, .bool r, .string ⟨#[]⟩] 35 (0, 0))) := set2 (set1 HB1.out _) _
  have hb4 : Below w.heap.size w ((w1.setCell ⟨w.heap.size + 1, 1, none⟩ (.int .u32 n)).setCell ⟨w.heap.size + 1, 2, none⟩ (.bool r)) := (hb1.setCell (Nat.le_succ _) _).setCell (Nat.le_succ _) _
  by_cases c6 : s.size < 39
  · have HE2 : Hid (res = Fm.none_ 10) := by show _ = _; rw [HE.out]; unfold Fm.parseL; rw [if_pos (by omega)]
    clear HA4 HB4 N1' N2' HN
    go_wp2
    exact bodyPost_ret (v := fv (Fm.none_ 10)) (by simp [results, Tryz.results97, go_sem, fv, Fm.none_, x0, x1, x2, x3]) rfl ⟨by rw [HE2.out], (((hb4.setCell (Nat.le_refl _) _).setCell (Nat.le_refl _) _).setCell (Nat.le_refl _) _).setCell (Nat.le_refl _) _⟩
  have N4' : Hid (∀ w, Calls Tryz.prog 64 #[.string (s.extract 35 39)] w fun e w' => e = .returned (.int .u64 (Bm.num (Fm.cut (Bm.read s.data.toList) 35 4))) ∧ w' = w) := fun w => HN.out 35 39 w (by omega)
  have L4 := Fm.num_cut (Bm.read s.data.toList) 35 4
  have HE3 : Hid (res = Fm.parseD (Bm.read s.data.toList) true n r 39 (if r then 0 else min (Bm.num (Fm.cut (Bm.read s.data.toList) 35 4)) 8)) := by show _ = _; rw [HE.out]; unfold Fm.parseL; rw [if_neg (by omega)]
  clear HE HN N1' N2'
  generalize Bm.num (Fm.cut (Bm.read s.data.toList) 35 4) = m4 at *
  have hmin : min (m4 : Int) 8 = ((min m4 8 : Nat) : Int) := by omega
  have hm8 : min m4 8 ≤ 8 := by omega
  generalize min m4 8 = K at *
  go_wp2_with fail
  generalize (w1.setCell ⟨w.heap.size + 1, 1, none⟩ (.int .u32 n)).setCell ⟨w.heap.size + 1, 2, none⟩ (.bool r) = w4 at *
  clear x0 x1 x2 x3 v0 v1 v2 v3 y0 y1 y2 y3 z0 z1 z2 z3 HA1 HB1 hb1
  obtain ⟨x0, x1, x2, x3, v0, v1, v2, v3⟩ := four_cells HA4.out
  obtain ⟨y0, y1, y2, y3, z0, z1, z2, z3⟩ := four_cells HB4.out
  refine (N4'.out _).mono ?_
  rintro e w5 ⟨rfl, rfl⟩
  clear N4'
  cases r
  · rw [if_neg (by decide)] at HE3
    by_cases c7 : s.size < 39 + 8 * K
    · have HE2 : Hid (res = Fm.none_ 10) := by show _ = _; rw [HE3.out]; unfold Fm.parseD; rw [if_pos (by omega)]
      go_wp2
      exact bodyPost_ret (v := fv (Fm.none_ 10)) (by simp [results, Tryz.results97, go_sem, fv, Fm.none_, x0, x1, x2, x3]) rfl ⟨by rw [HE2.out], (((hb4.setCell (Nat.le_refl _) _).setCell (Nat.le_refl _) _).setCell (Nat.le_refl _) _).setCell (Nat.le_refl _) _⟩
    · have HE2 : Hid (res = ((true, n, false, Bm.bytes (Fm.cut (Bm.read s.data.toList) 39 (8 * K))), 39 + 8 * K, 0)) := by show _ = _; rw [HE3.out]; unfold Fm.parseD; rw [if_neg (by omega)]
      have HB : Hid (∀ w, Calls Tryz.prog 113 #[.string (s.extract 39 (39 + 8 * K))] w fun e w' => e = .returned (.string ⟨(Bm.bytes (Fm.cut (Bm.read s.data.toList) 39 (8 * K))).toArray⟩) ∧ Below w.heap.size w w') := fun w => refBytes_cut s 39 (8 * K) (by omega) hs w
      go_wp2_with fail
      refine (HB.out _).mono ?_
      rintro e w2 ⟨rfl, hb2⟩
      have HRa : Hid (_) := block_on (Array.getElem?_eq_some_iff.1 HA4.out).1 hb2 HA4.out
      have HRb : Hid (_) := block_on (Array.getElem?_eq_some_iff.1 HB4.out).1 hb2 HB4.out
      have hb3 := below_join hb4 hb2
      clear hb2 hb4 HA4 HB4 x0 x1 x2 x3 v0 v1 v2 v3 y0 y1 y2 y3 z0 z1 z2 z3
      obtain ⟨x0, x1, x2, x3, v0, v1, v2, v3⟩ := four_cells HRa.out
      obtain ⟨y0, y1, y2, y3, z0, z1, z2, z3⟩ := four_cells HRb.out
      go_wp2
      exact bodyPost_ret (v := fv ((true, n, false, Bm.bytes (Fm.cut (Bm.read s.data.toList) 39 (8 * K))), 39 + 8 * K, 0)) (by simp [results, Tryz.results97, go_sem, fv, x0, x1, x2, x3]) rfl ⟨by rw [HE2.out], ((((hb3.setCell (Nat.le_succ _) _).setCell (Nat.le_refl _) _).setCell (Nat.le_refl _) _).setCell (Nat.le_refl _) _).setCell (Nat.le_refl _) _⟩
  · rw [if_pos rfl] at HE3
    have HE2 : Hid (res = ((true, n, true, Bm.bytes (Fm.cut (Bm.read s.data.toList) 39 0)), 39 + 0, 0)) := by show _ = _; rw [HE3.out]; unfold Fm.parseD; rw [if_neg (by omega)]
    have HB : Hid (∀ w, Calls Tryz.prog 113 #[.string ByteArray.empty] w fun e w' => e = .returned (.string ⟨(Bm.bytes (Fm.cut (Bm.read s.data.toList) 39 0)).toArray⟩) ∧ Below w.heap.size w w') := fun w => refBytes_any ByteArray.empty w (by decide)
    go_wp2_with fail
    refine (HB.out _).mono ?_
    rintro e w2 ⟨rfl, hb2⟩
    have HRa : Hid (_) := block_on (Array.getElem?_eq_some_iff.1 HA4.out).1 hb2 HA4.out
    have HRb : Hid (_) := block_on (Array.getElem?_eq_some_iff.1 HB4.out).1 hb2 HB4.out
    have hb3 := below_join hb4 hb2
    clear hb2 hb4 HA4 HB4 x0 x1 x2 x3 v0 v1 v2 v3 y0 y1 y2 y3 z0 z1 z2 z3
    obtain ⟨x0, x1, x2, x3, v0, v1, v2, v3⟩ := four_cells HRa.out
    obtain ⟨y0, y1, y2, y3, z0, z1, z2, z3⟩ := four_cells HRb.out
    go_wp2
    exact bodyPost_ret (v := fv ((true, n, true, Bm.bytes (Fm.cut (Bm.read s.data.toList) 39 0)), 39 + 0, 0)) (by simp [results, Tryz.results97, go_sem, fv, x0, x1, x2, x3]) rfl ⟨by rw [HE2.out], ((((hb3.setCell (Nat.le_succ _) _).setCell (Nat.le_refl _) _).setCell (Nat.le_refl _) _).setCell (Nat.le_refl _) _).setCell (Nat.le_refl _) _⟩
end Go.Proofs.YthkaekpoicodeaaGreatDoor
/- What the document's own Parse of frames answers, over its text: the whole. -/
namespace Go.Proofs.YthkaekpoicodeaaGreatDoor
open Go.RowKit
set_option maxRecDepth 100000 in
set_option maxHeartbeats 8000000 in
theorem refFParse_any (s : ByteArray) (w : World) (hs : s.size ≤ 1048576) :
    Calls Tryz.prog 97 #[.string s] w fun e w' => e = .returned (fv (Fm.parse (Bm.read s.data.toList))) ∧ Below w.heap.size w w' := by
  have hlen : (Bm.read s.data.toList).length = s.size := by rw [Bm.length_read]; simp
  have HN : Hid (∀ i j w, j ≤ s.size → Calls Tryz.prog 64 #[.string (s.extract i j)] w fun e w' => e = .returned (.int .u64 (Bm.num (Fm.cut (Bm.read s.data.toList) i (j - i)))) ∧ w' = w) := fun i j w h => refNum_cut s i j h hs w
  have H1 : Hid (∀ k (h : k < s.size), ((s[k].toNat : Int) == 49) = (Bm.read s.data.toList).getD k false) := fun k h => Fm.one_dec s k h
  have HP : Hid (Fm.parse (Bm.read s.data.toList) = if s.size < 1 then Fm.none_ 10 else if (Bm.read s.data.toList).getD 0 false then Fm.none_ 12 else if s.size < 14 then Fm.none_ 10 else
  if (Bm.read s.data.toList).getD 13 false then (if (Bm.read s.data.toList).getD 12 false then (if s.size < 33 then Fm.none_ 10 else Fm.parseL (Bm.read s.data.toList) true (Bm.num (Fm.cut (Bm.read s.data.toList) 1 11) * 262144 + Bm.num (Fm.cut (Bm.read s.data.toList) 14 18)) ((Bm.read s.data.toList).getD 32 false) 35) else Fm.none_ 12)
  else Fm.parseL (Bm.read s.data.toList) false (Bm.num (Fm.cut (Bm.read s.data.toList) 1 11)) ((Bm.read s.data.toList).getD 12 false) 15) := by
    rw [← hlen]
    rfl
  have HX : Hid (¬ s.size < 33 → (Bm.read s.data.toList).getD 0 false = false → (Bm.read s.data.toList).getD 13 false = true → (Bm.read s.data.toList).getD 12 false = true → Calls Tryz.prog 97 #[.string s] w fun e w' => e = .returned (fv (Fm.parse (Bm.read s.data.toList))) ∧ Below w.heap.size w w') := fun a b c d => refFParse_ext s w hs a b c d
  generalize Fm.parse (Bm.read s.data.toList) = res at *
  by_cases c1 : s.size < 1
  · have HE : Hid (res = Fm.none_ 10) := by show _ = _; rw [HP.out, if_pos c1]
    clear HN H1 HP
    go_enter Tryz.func97, Tryz.ntmps97
    go_wp2
    exact bodyPost_ret (v := fv (Fm.none_ 10)) (by simp [results, Tryz.results97, go_sem, fv, Fm.none_]) rfl ⟨by rw [HE.out], (Below.refl _ _).alloc (Nat.le_refl _) _⟩
  have h0 := H1.out 0 (by omega)
  cases q0 : (Bm.read s.data.toList).getD 0 false
  · rw [q0] at h0
    by_cases c2 : s.size < 14
    · have HE : Hid (res = Fm.none_ 10) := by show _ = _; rw [HP.out, if_neg c1, q0, if_neg (by decide), if_pos c2]
      clear HN H1 HP
      go_enter Tryz.func97, Tryz.ntmps97
      go_wp2
      exact bodyPost_ret (v := fv (Fm.none_ 10)) (by simp [results, Tryz.results97, go_sem, fv, Fm.none_]) rfl ⟨by rw [HE.out], (Below.refl _ _).alloc (Nat.le_refl _) _⟩
    have h13 := H1.out 13 (by omega)
    have h12 := H1.out 12 (by omega)
    have N1 := HN.out 1 12
    have L1 := Fm.num_cut (Bm.read s.data.toList) 1 11
    cases q13 : (Bm.read s.data.toList).getD 13 false
    · rw [q13] at h13
      obtain ⟨r, hr⟩ : ∃ r, (Bm.read s.data.toList).getD 12 false = r := ⟨_, rfl⟩
      rw [hr] at h12
      have HE : Hid (res = Fm.parseL (Bm.read s.data.toList) false (Bm.num (Fm.cut (Bm.read s.data.toList) 1 11)) r 15) := by show _ = _; rw [HP.out, if_neg c1, q0, if_neg (by decide), if_neg c2, q13, if_neg (by decide), hr]
      have N1' : Hid (∀ w, Calls Tryz.prog 64 #[.string (s.extract 1 12)] w fun e w' => e = .returned (.int .u64 (Bm.num (Fm.cut (Bm.read s.data.toList) 1 11))) ∧ w' = w) := fun w => N1 w (by omega)
      clear N1 HP
      generalize Bm.num (Fm.cut (Bm.read s.data.toList) 1 11) = n at *
      by_cases c3 : s.size < 19
      · have HE2 : Hid (res = Fm.none_ 10) := by show _ = _; rw [HE.out]; unfold Fm.parseL; rw [if_pos (by omega)]
        go_enter Tryz.func97, Tryz.ntmps97
        go_wp2_with fail
        refine (N1'.out _).mono ?_
        rintro e w1 ⟨rfl, rfl⟩
        go_wp2
        exact bodyPost_ret (v := fv (Fm.none_ 10)) (by simp [results, Tryz.results97, go_sem, fv, Fm.none_]) rfl ⟨by rw [HE2.out], ((Below.refl _ _).alloc (Nat.le_refl _) _).alloc (by simp) _⟩
      have N4 := HN.out 15 19
      have N4' : Hid (∀ w, Calls Tryz.prog 64 #[.string (s.extract 15 19)] w fun e w' => e = .returned (.int .u64 (Bm.num (Fm.cut (Bm.read s.data.toList) 15 4))) ∧ w' = w) := fun w => N4 w (by omega)
      have L4 := Fm.num_cut (Bm.read s.data.toList) 15 4
      clear N4
      have HE3 : Hid (res = Fm.parseD (Bm.read s.data.toList) false n r 19 (if r then 0 else min (Bm.num (Fm.cut (Bm.read s.data.toList) 15 4)) 8)) := by show _ = _; rw [HE.out]; unfold Fm.parseL; rw [if_neg (by omega)]
      clear HE HN H1
      generalize Bm.num (Fm.cut (Bm.read s.data.toList) 15 4) = m4 at *
      have hmin : min (m4 : Int) 8 = ((min m4 8 : Nat) : Int) := by omega
      have hm8 : min m4 8 ≤ 8 := by omega
      generalize min m4 8 = K at *
      cases r
      · rw [if_neg (by decide)] at HE3
        by_cases c4 : s.size < 19 + 8 * K
        · have HE2 : Hid (res = Fm.none_ 10) := by show _ = _; rw [HE3.out]; unfold Fm.parseD; rw [if_pos (by omega)]
          go_enter Tryz.func97, Tryz.ntmps97
          go_wp2_with fail
          refine (N1'.out _).mono ?_
          rintro e w1 ⟨rfl, rfl⟩
          go_wp2_with fail
          refine (N4'.out _).mono ?_
          rintro e w1 ⟨rfl, rfl⟩
          go_wp2
          exact bodyPost_ret (v := fv (Fm.none_ 10)) (by simp [results, Tryz.results97, go_sem, fv, Fm.none_]) rfl ⟨by rw [HE2.out], ((Below.refl _ _).alloc (Nat.le_refl _) _).alloc (by simp) _⟩
        · have HE2 : Hid (res = ((false, n, false, Bm.bytes (Fm.cut (Bm.read s.data.toList) 19 (8 * K))), 19 + 8 * K, 0)) := by show _ = _; rw [HE3.out]; unfold Fm.parseD; rw [if_neg (by omega)]
          have HB : Hid (∀ w, Calls Tryz.prog 113 #[.string (s.extract 19 (19 + 8 * K))] w fun e w' => e = .returned (.string ⟨(Bm.bytes (Fm.cut (Bm.read s.data.toList) 19 (8 * K))).toArray⟩) ∧ Below w.heap.size w w') := fun w => refBytes_cut s 19 (8 * K) (by omega) hs w
          go_enter Tryz.func97, Tryz.ntmps97
          go_wp2_with fail
          refine (N1'.out _).mono ?_
          rintro e w1 ⟨rfl, rfl⟩
          go_wp2_with fail
          refine (N4'.out _).mono ?_
          rintro e w1 ⟨rfl, rfl⟩
          go_wp2_with fail
          refine (HB.out _).mono ?_
          rintro e w2 ⟨rfl, hb2⟩
          have HRa : Hid (w2.heap[w.heap.size]? = some (.cells #[.bool false, .int .u32 0, .bool false, .string ⟨#[]⟩] 35 (0, 0))) := (hb2.block w.heap.size (by simp; omega)).trans (heap_alloc2_old _ _ _)
          have HRb : Hid (w2.heap[w.heap.size + 1]? = some (.cells #[.bool false, .int .u32 n, .bool false, .string ⟨#[]⟩] 35 (0, 0))) := (hb2.block (w.heap.size + 1) (by simp)).trans (heap_alloc2_new _ _ _)
          have hb3 := below_join (((Below.refl _ _).alloc (Nat.le_refl _) _).alloc (by simp) _) hb2
          clear hb2
          have z3 := frozen_of_row _ _ 3 _ _ HRb.out
          have y0 : w2.cell? ⟨w.heap.size + 1, 0, none⟩ = some (.bool false) := by rw [cell_of_row _ _ _ _ _ _ HRb.out]; rfl
          have y1 : w2.cell? ⟨w.heap.size + 1, 1, none⟩ = some (.int .u32 n) := by rw [cell_of_row _ _ _ _ _ _ HRb.out]; rfl
          have y2 : w2.cell? ⟨w.heap.size + 1, 2, none⟩ = some (.bool false) := by rw [cell_of_row _ _ _ _ _ _ HRb.out]; rfl
          have y3 : w2.cell? ⟨w.heap.size + 1, 3, none⟩ = some (.string ⟨#[]⟩) := by rw [cell_of_row _ _ _ _ _ _ HRb.out]; rfl
          have x0 : w2.cell? ⟨w.heap.size, 0, none⟩ = some (.bool false) := by rw [cell_of_row _ _ _ _ _ _ HRa.out]; rfl
          have x1 : w2.cell? ⟨w.heap.size, 1, none⟩ = some (.int .u32 0) := by rw [cell_of_row _ _ _ _ _ _ HRa.out]; rfl
          have x2 : w2.cell? ⟨w.heap.size, 2, none⟩ = some (.bool false) := by rw [cell_of_row _ _ _ _ _ _ HRa.out]; rfl
          have x3 : w2.cell? ⟨w.heap.size, 3, none⟩ = some (.string ⟨#[]⟩) := by rw [cell_of_row _ _ _ _ _ _ HRa.out]; rfl
          have v0 := frozen_of_row _ _ 0 _ _ HRa.out
          have v1 := frozen_of_row _ _ 1 _ _ HRa.out
          have v2 := frozen_of_row _ _ 2 _ _ HRa.out
          have v3 := frozen_of_row _ _ 3 _ _ HRa.out
          go_wp2
          exact bodyPost_ret (v := fv ((false, n, false, Bm.bytes (Fm.cut (Bm.read s.data.toList) 19 (8 * K))), 19 + 8 * K, 0)) (by simp [results, Tryz.results97, go_sem, fv, x0, x1, x2, x3]) rfl ⟨by rw [HE2.out], ((((hb3.setCell (Nat.le_succ _) _).setCell (Nat.le_refl _) _).setCell (Nat.le_refl _) _).setCell (Nat.le_refl _) _).setCell (Nat.le_refl _) _⟩
      · rw [if_pos rfl] at HE3
        have HE2 : Hid (res = ((false, n, true, Bm.bytes (Fm.cut (Bm.read s.data.toList) 19 0)), 19 + 0, 0)) := by show _ = _; rw [HE3.out]; unfold Fm.parseD; rw [if_neg (by omega)]
        have HB : Hid (∀ w, Calls Tryz.prog 113 #[.string ByteArray.empty] w fun e w' => e = .returned (.string ⟨(Bm.bytes (Fm.cut (Bm.read s.data.toList) 19 0)).toArray⟩) ∧ Below w.heap.size w w') := fun w => refBytes_any ByteArray.empty w (by decide)
        go_enter Tryz.func97, Tryz.ntmps97
        go_wp2_with fail
        refine (N1'.out _).mono ?_
        rintro e w1 ⟨rfl, rfl⟩
        go_wp2_with fail
        refine (N4'.out _).mono ?_
        rintro e w1 ⟨rfl, rfl⟩
        go_wp2_with fail
        refine (HB.out _).mono ?_
        rintro e w2 ⟨rfl, hb2⟩
        have HRa : Hid (w2.heap[w.heap.size]? = some (.cells #[.bool false, .int .u32 0, .bool false, .string ⟨#[]⟩] 35 (0, 0))) := (hb2.block w.heap.size (by simp; omega)).trans (heap_alloc2_old _ _ _)
        have HRb : Hid (w2.heap[w.heap.size + 1]? = some (.cells #[.bool false, .int .u32 n, .bool true, .string ⟨#[]⟩] 35 (0, 0))) := (hb2.block (w.heap.size + 1) (by simp)).trans (heap_alloc2_new _ _ _)
        have hb3 := below_join (((Below.refl _ _).alloc (Nat.le_refl _) _).alloc (by simp) _) hb2
        clear hb2
        have z3 := frozen_of_row _ _ 3 _ _ HRb.out
        have y0 : w2.cell? ⟨w.heap.size + 1, 0, none⟩ = some (.bool false) := by rw [cell_of_row _ _ _ _ _ _ HRb.out]; rfl
        have y1 : w2.cell? ⟨w.heap.size + 1, 1, none⟩ = some (.int .u32 n) := by rw [cell_of_row _ _ _ _ _ _ HRb.out]; rfl
        have y2 : w2.cell? ⟨w.heap.size + 1, 2, none⟩ = some (.bool true) := by rw [cell_of_row _ _ _ _ _ _ HRb.out]; rfl
        have y3 : w2.cell? ⟨w.heap.size + 1, 3, none⟩ = some (.string ⟨#[]⟩) := by rw [cell_of_row _ _ _ _ _ _ HRb.out]; rfl
        have x0 : w2.cell? ⟨w.heap.size, 0, none⟩ = some (.bool false) := by rw [cell_of_row _ _ _ _ _ _ HRa.out]; rfl
        have x1 : w2.cell? ⟨w.heap.size, 1, none⟩ = some (.int .u32 0) := by rw [cell_of_row _ _ _ _ _ _ HRa.out]; rfl
        have x2 : w2.cell? ⟨w.heap.size, 2, none⟩ = some (.bool false) := by rw [cell_of_row _ _ _ _ _ _ HRa.out]; rfl
        have x3 : w2.cell? ⟨w.heap.size, 3, none⟩ = some (.string ⟨#[]⟩) := by rw [cell_of_row _ _ _ _ _ _ HRa.out]; rfl
        have v0 := frozen_of_row _ _ 0 _ _ HRa.out
        have v1 := frozen_of_row _ _ 1 _ _ HRa.out
        have v2 := frozen_of_row _ _ 2 _ _ HRa.out
        have v3 := frozen_of_row _ _ 3 _ _ HRa.out
        go_wp2
        exact bodyPost_ret (v := fv ((false, n, true, Bm.bytes (Fm.cut (Bm.read s.data.toList) 19 (0))), 19 + 0, 0)) (by simp [results, Tryz.results97, go_sem, fv, x0, x1, x2, x3]) rfl ⟨by rw [HE2.out], ((((hb3.setCell (Nat.le_succ _) _).setCell (Nat.le_refl _) _).setCell (Nat.le_refl _) _).setCell (Nat.le_refl _) _).setCell (Nat.le_refl _) _⟩
    · rw [q13] at h13
      cases q12 : (Bm.read s.data.toList).getD 12 false
      · rw [q12] at h12
        have HE : Hid (res = Fm.none_ 12) := by show _ = _; rw [HP.out, if_neg c1, q0, if_neg (by decide), if_neg c2, q13, if_pos rfl, q12, if_neg (by decide)]
        have N1' : Hid (∀ w, Calls Tryz.prog 64 #[.string (s.extract 1 12)] w fun e w' => e = .returned (.int .u64 (Bm.num (Fm.cut (Bm.read s.data.toList) 1 11))) ∧ w' = w) := fun w => N1 w (by omega)
        clear N1 HP HN H1
        generalize Bm.num (Fm.cut (Bm.read s.data.toList) 1 11) = n1 at *
        go_enter Tryz.func97, Tryz.ntmps97
        go_wp2_with fail
        refine (N1'.out _).mono ?_
        rintro e w1 ⟨rfl, rfl⟩
        go_wp2
        exact bodyPost_ret (v := fv (Fm.none_ 12)) (by simp [results, Tryz.results97, go_sem, fv, Fm.none_]) rfl ⟨by rw [HE.out], ((Below.refl _ _).alloc (Nat.le_refl _) _).alloc (by simp) _⟩
      · rw [q12] at h12
        by_cases c5 : s.size < 33
        · have HE : Hid (res = Fm.none_ 10) := by show _ = _; rw [HP.out, if_neg c1, q0, if_neg (by decide), if_neg c2, q13, if_pos rfl, q12, if_pos rfl, if_pos c5]
          have N1' : Hid (∀ w, Calls Tryz.prog 64 #[.string (s.extract 1 12)] w fun e w' => e = .returned (.int .u64 (Bm.num (Fm.cut (Bm.read s.data.toList) 1 11))) ∧ w' = w) := fun w => N1 w (by omega)
          clear N1 HP HN H1
          generalize Bm.num (Fm.cut (Bm.read s.data.toList) 1 11) = n1 at *
          go_enter Tryz.func97, Tryz.ntmps97
          go_wp2_with fail
          refine (N1'.out _).mono ?_
          rintro e w1 ⟨rfl, rfl⟩
          go_wp2
          exact bodyPost_ret (v := fv (Fm.none_ 10)) (by simp [results, Tryz.results97, go_sem, fv, Fm.none_]) rfl ⟨by rw [HE.out], ((Below.refl _ _).alloc (Nat.le_refl _) _).alloc (by simp) _⟩
        exact HX.out c5 q0 q13 q12
  · have HE : Hid (res = Fm.none_ 12) := by show _ = _; rw [HP.out, if_neg c1, q0, if_pos rfl]
    rw [q0] at h0
    clear HN H1 HP
    go_enter Tryz.func97, Tryz.ntmps97
    go_wp2
    exact bodyPost_ret (v := fv (Fm.none_ 12)) (by simp [results, Tryz.results97, go_sem, fv, Fm.none_]) rfl ⟨by rw [HE.out], (Below.refl _ _).alloc (Nat.le_refl _) _⟩
end Go.Proofs.YthkaekpoicodeaaGreatDoor
