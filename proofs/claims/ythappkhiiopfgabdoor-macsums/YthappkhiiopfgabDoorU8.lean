/- What the document's own run, with and other, answers, over their text. -/
import Derived.Test.YthappkhiiopfgabDoorRows
import Derived.Test.YthappkhiiopfgabDoorU1
import Derived.Test.YthappkhiiopfgabDoorU2
import Derived.WalkKit
import Derived.WalkSpells
import Derived.WalkLawsBesides
import Derived.Handy
namespace Go.Proofs.YthappkhiiopfgabDoor
open Go.RowKit
set_option maxHeartbeats 1000000 in
theorem refwith_any (n : Nat) (x c : Int) (w : World) (hn : n ≤ 1048576) :
    Calls Tryd.prog 35 #[.agg #[.int .i64 n, .int .u8 x], .int .u8 c] w fun e w' => e = .returned (.agg #[.int .i64 (Sm.wn n x c), .int .u8 (Sm.wb c)]) ∧ Below w.heap.size w w' := by
  by_cases hc : c = 49
  · by_cases h0 : 0 < n
    · by_cases hx : x = 49
      · have e1 : Sm.wn n x c = (n : Int) + 1 := by unfold Sm.wn Sm.wb; rw [if_pos hc, if_pos ⟨by omega, hx⟩]
        have e2 : Sm.wb c = 49 := by unfold Sm.wb; rw [if_pos hc]
        rw [e1, e2]
        have t1 : (c != 49) = false := by simp [hc]
        have t2 : (x == c) = true := by rw [hx, hc]; rfl
        clear e1 e2
        go_enter Tryd.func35, Tryd.ntmps35
        go_wp2
        exact bodyPost_ret (v := .agg #[.int .i64 ((n : Int) + 1), .int .u8 49]) (by simp [results, Tryd.results35, go_sem]) rfl ⟨rfl, ((Below.refl _ _).alloc (Nat.le_refl _) _).alloc (by simp) _⟩
      · have e1 : Sm.wn n x c = 1 := by unfold Sm.wn Sm.wb; rw [if_pos hc, if_neg (fun h => hx h.2)]
        have e2 : Sm.wb c = 49 := by unfold Sm.wb; rw [if_pos hc]
        rw [e1, e2]
        have t1 : (c != 49) = false := by simp [hc]
        have t2 : (x == c) = false := by rw [hc]; simp [hx]
        clear e1 e2
        go_enter Tryd.func35, Tryd.ntmps35
        go_wp2
        exact bodyPost_ret (v := .agg #[.int .i64 (1), .int .u8 49]) (by simp [results, Tryd.results35, go_sem]) rfl ⟨rfl, ((Below.refl _ _).alloc (Nat.le_refl _) _).alloc (by simp) _⟩
    · have e1 : Sm.wn n x c = 1 := by unfold Sm.wn Sm.wb; rw [if_pos hc, if_neg (fun h => by omega)]
      have e2 : Sm.wb c = 49 := by unfold Sm.wb; rw [if_pos hc]
      rw [e1, e2]
      have t1 : (c != 49) = false := by simp [hc]
      clear e1 e2
      go_enter Tryd.func35, Tryd.ntmps35
      go_wp2
      exact bodyPost_ret (v := .agg #[.int .i64 (1), .int .u8 49]) (by simp [results, Tryd.results35, go_sem]) rfl ⟨rfl, ((Below.refl _ _).alloc (Nat.le_refl _) _).alloc (by simp) _⟩
  · by_cases h0 : 0 < n
    · by_cases hx : x = 48
      · have e1 : Sm.wn n x c = (n : Int) + 1 := by unfold Sm.wn Sm.wb; rw [if_neg hc, if_pos ⟨by omega, hx⟩]
        have e2 : Sm.wb c = 48 := by unfold Sm.wb; rw [if_neg hc]
        rw [e1, e2]
        have t1 : (c != 49) = true := by simp [hc]
        have t2 : (x == 48) = true := by simp [hx]
        clear e1 e2
        go_enter Tryd.func35, Tryd.ntmps35
        go_wp2
        exact bodyPost_ret (v := .agg #[.int .i64 ((n : Int) + 1), .int .u8 48]) (by simp [results, Tryd.results35, go_sem]) rfl ⟨rfl, ((Below.refl _ _).alloc (Nat.le_refl _) _).alloc (by simp) _⟩
      · have e1 : Sm.wn n x c = 1 := by unfold Sm.wn Sm.wb; rw [if_neg hc, if_neg (fun h => hx h.2)]
        have e2 : Sm.wb c = 48 := by unfold Sm.wb; rw [if_neg hc]
        rw [e1, e2]
        have t1 : (c != 49) = true := by simp [hc]
        have t2 : (x == 48) = false := by simp [hx]
        clear e1 e2
        go_enter Tryd.func35, Tryd.ntmps35
        go_wp2
        exact bodyPost_ret (v := .agg #[.int .i64 (1), .int .u8 48]) (by simp [results, Tryd.results35, go_sem]) rfl ⟨rfl, ((Below.refl _ _).alloc (Nat.le_refl _) _).alloc (by simp) _⟩
    · have e1 : Sm.wn n x c = 1 := by unfold Sm.wn Sm.wb; rw [if_neg hc, if_neg (fun h => by omega)]
      have e2 : Sm.wb c = 48 := by unfold Sm.wb; rw [if_neg hc]
      rw [e1, e2]
      have t1 : (c != 49) = true := by simp [hc]
      clear e1 e2
      go_enter Tryd.func35, Tryd.ntmps35
      go_wp2
      exact bodyPost_ret (v := .agg #[.int .i64 (1), .int .u8 48]) (by simp [results, Tryd.results35, go_sem]) rfl ⟨rfl, ((Below.refl _ _).alloc (Nat.le_refl _) _).alloc (by simp) _⟩

set_option maxHeartbeats 400000 in
theorem refother_any (c : Int) (w : World) :
    Calls Tryd.prog 36 #[.int .u8 c] w fun e w' => e = .returned (.int .u8 (Sm.ob c)) ∧ w' = w := by
  unfold Sm.ob
  by_cases h : c = 49
  · have hb : (c == 49) = true := by simp [h]
    rw [if_pos h]
    clear h
    go_enter Tryd.func36, Tryd.ntmps36
    go_wp2
    go_ret
    exact ⟨rfl, rfl⟩
  · have hb : (c == 49) = false := by simp [h]
    rw [if_neg h]
    go_enter Tryd.func36, Tryd.ntmps36
    go_wp2
    go_ret
    exact ⟨rfl, rfl⟩
end Go.Proofs.YthappkhiiopfgabDoor
/- What the document's own Stuff answers, over its text. -/
namespace Go.Proofs.YthappkhiiopfgabDoor
open Go.RowKit
set_option maxRecDepth 100000 in
set_option maxHeartbeats 1000000 in
theorem rstuff_any (s : ByteArray) (w : World) (hs : s.size ≤ 1048576) :
    Calls Tryd.prog 20 #[.string s] w fun e w' => e = .returned (.string ⟨(Bm.row (Sm.stuff (Bm.read s.data.toList))).toArray⟩) ∧ Below w.heap.size w w' := by
  obtain ⟨i0, hi, hz0, hz1, hz2⟩ := info_parts Tryd.infoU8
  go_enter Tryd.func20, Tryd.ntmps20
  go_wp2
  go_loopw [3, 5] (fun v i wr => ∃ (k : Nat) (r : Nat × Bool) (o : List Bool), k ≤ s.size ∧ i = .int .i64 k ∧ Hid (wr.ownsRow (w.heap.size + 1) 5 1 v o.length (Bm.cellsOf (Bm.row o))) ∧ Hid (wr.heap[w.heap.size]? = some (.cells #[.int .i64 r.1, .int .u8 (Sm.sv r)] 63 (0, 0))) ∧ Below w.heap.size w wr ∧ Hid (Sm.stuff (Bm.read s.data.toList) = Sm.stB r o ((Bm.read s.data.toList).drop k)) ∧ r.1 < 5 ∧ o.length ≤ 2 * k)
    (fun _ i _ => s.size - (intOf i).toNat)
  case atStart => exact ⟨0, (0, false), [], Nat.zero_le _, rfl, World.ownsRow_nil _ _ _ _, heap_alloc_new _ _, (Below.refl _ _).alloc (Nat.le_refl _) _, rfl, by decide, by decide⟩
  case round =>
    obtain ⟨k, r, o, hk, rfl, HO, HR, hb, HI, hr, ho⟩ := hrel
    by_cases hlt : k < s.size
    · have hsz : w.heap.size < wr.heap.size := (Array.getElem?_eq_some_iff.1 HR.out).1
      have hc0 : wr.cell? ⟨w.heap.size, 0, none⟩ = some (.int .i64 r.1) := by rw [cell_of_row _ _ _ _ _ _ HR.out]; rfl
      have hc1 : wr.cell? ⟨w.heap.size, 1, none⟩ = some (.int .u8 (Sm.sv r)) := by rw [cell_of_row _ _ _ _ _ _ HR.out]; rfl
      go_wp2_with fail
      go_region_with (go_at_call 35; refine (refwith_any _ _ _ _ (by omega)).mono ?_; rintro e w1 ⟨rfl, hb1⟩; have d0 := (hb1.cell (p := ⟨w.heap.size, 0, none⟩) hsz).trans hc0; have d1 := (hb1.cell (p := ⟨w.heap.size, 1, none⟩) hsz).trans hc1; have f0 := (hb1.frozen (p := ⟨w.heap.size, 0, none⟩) hsz).trans (frozen_of_row _ _ _ _ _ HR.out); have f1 := (hb1.frozen (p := ⟨w.heap.size, 1, none⟩) hsz).trans (frozen_of_row _ _ _ _ _ HR.out))
      all_goals
        clear hc0 hc1 d0 d1 f0 f1
        have HR1 : Hid (w1.heap[w.heap.size]? = some (.cells #[.int .i64 r.1, .int .u8 (Sm.sv r)] 63 (0, 0))) := (hb1.block w.heap.size hsz).trans HR.out
        have HO1 : Hid (w1.ownsRow (w.heap.size + 1) 5 1 u3 o.length (Bm.cellsOf (Bm.row o))) := Lw.owns_keep HO.out (fun g _ hg => hb1.block g hg)
        have hb2 : Below w.heap.size w w1 := hb.drew.trans (hb1.mono (Nat.le_of_lt hsz))
        have HW : Hid (Sm.wn (r.1 : Int) (Sm.sv r) (s[k].toNat : Int) = ((Sm.step r (Bm.isOne s[k])).1 : Int)) := Sm.wn_step r s[k]
        have HB : Hid (Sm.wb (s[k].toNat : Int) = Sm.sv (Sm.step r (Bm.isOne s[k]))) := Sm.sv_step r s[k]
        rw [HW.out, HB.out]
        clear HR HO hb hb1 HW HB
        obtain ⟨w2, hw2⟩ : ∃ w2, w2 = ((w1.setCell ⟨w.heap.size, 0, none⟩ (.int .i64 (Sm.step r (Bm.isOne s[k])).1)).setCell ⟨w.heap.size, 1, none⟩ (.int .u8 (Sm.sv (Sm.step r (Bm.isOne s[k]))))) := ⟨_, rfl⟩
        rw [← hw2]
        have HR2 : Hid (w2.heap[w.heap.size]? = some (.cells #[.int .i64 (Sm.step r (Bm.isOne s[k])).1, .int .u8 (Sm.sv (Sm.step r (Bm.isOne s[k])))] 63 (0, 0))) := by
          rw [hw2]; exact Lw.two_cells HR1.out
        have HO2 : Hid (w2.ownsRow (w.heap.size + 1) 5 1 u3 o.length (Bm.cellsOf (Bm.row o))) := by
          rw [hw2]; exact Lw.owns_keep HO1.out (fun g hg _ => Lw.two_other (by omega))
        have hb3 : Below w.heap.size w w2 := by
          rw [hw2]; exact (hb2.setCell (Nat.le_refl _) _).setCell (Nat.le_refl _) _
        clear hw2 HR1 HO1 hb2 hsz
        have hsz2 : w.heap.size < w2.heap.size := (Array.getElem?_eq_some_iff.1 HR2.out).1
        have HI2 : Hid (Sm.stuff (Bm.read s.data.toList) = if (Sm.step r (Bm.isOne s[k])).1 = 5 then Sm.stB (1, !(Sm.step r (Bm.isOne s[k])).2) (o ++ [(Sm.step r (Bm.isOne s[k])).2, !(Sm.step r (Bm.isOne s[k])).2]) ((Bm.read s.data.toList).drop (k + 1)) else Sm.stB (Sm.step r (Bm.isOne s[k])) (o ++ [(Sm.step r (Bm.isOne s[k])).2]) ((Bm.read s.data.toList).drop (k + 1))) := by
          show _ = _
          rw [HI.out, Bm.read_drop s k hlt, Sm.step_snd]
          rfl
        have hp := Sm.step_pos r (Bm.isOne s[k])
        have hle := Sm.step_le r (Bm.isOne s[k])
        generalize Sm.step r (Bm.isOne s[k]) = q at *
        have hc0 := Lw.cell0 HR2.out
        have hc1 := Lw.cell1 HR2.out
        have hk1 : o.length + 1 ≤ maxLen := by unfold maxLen; omega
        clear HI
        by_cases h5 : q.1 = 5
        · have t5 : ((q.1 : Int) == 5) = true := by rw [h5]; rfl
          have hk2 : o.length + 1 + 1 ≤ maxLen := by unfold maxLen; omega
          have HOB : Hid (Sm.ob (Sm.sv q) = Sm.sv (1, !q.2)) := Sm.ob_sv q hp
          go_wp2_with (first | (at_builtin; refine wpList_append_own _ rfl (.tmp 18) (.tmp 21) 61 rfl (w.heap.size + 1) 5 i0 (.int .u8 0) 1 1 Tryd.underlying61 hi hz0 hz1 hz2 rfl (by decide) u3 o.length _ rfl (HO2.out.alloc _) _ 1 1 [.int .u8 (Sm.sv q)] rfl rfl (cell_one_new _ _ _) (ints_oneCell .u8 [_]) hk1 (by omega) (by simp; omega) ?_; intro v3 w3 hown3 hgrow3 _; have HR3 : Hid (_) := (Lw.grow_block HO2.out hgrow3 hsz2).trans HR2.out; have g0 := Lw.cell0 HR3.out; have g1 := Lw.cell1 HR3.out; have hb4 := Lw.grow_below hb3 HO2.out hgrow3 (Nat.le_of_lt hsz2); clear hgrow3 hc0 hc1; have hsz3 : w.heap.size < w3.heap.size := (Array.getElem?_eq_some_iff.1 HR3.out).1; have fz0 := frozen_of_row _ _ 0 _ _ HR3.out; have fz1 := frozen_of_row _ _ 1 _ _ HR3.out) | (go_at_call 36; refine (refother_any _ _).mono ?_; rintro e w5 ⟨rfl, rfl⟩; rw [HOB.out]) | (at_builtin; refine wpList_append_own _ rfl (.tmp 30) (.tmp 33) 61 rfl (w.heap.size + 1) 5 i0 (.int .u8 0) 1 1 Tryd.underlying61 hi hz0 hz1 hz2 rfl (by decide) v3 (o.length + 1) _ rfl (World.ownsRow.alloc (Lw.owns_two hown3) _) _ 1 1 [.int .u8 (Sm.sv (1, !q.2))] rfl rfl Lw.one_new_two (ints_oneCell .u8 [_]) hk2 (by omega) (by simp; omega) ?_; intro v4 w4 hown4 hgrow4 _))
          have HR5 : Hid (w4.heap[w.heap.size]? = some (.cells #[.int .i64 (1 : Nat), .int .u8 (Sm.sv (1, !q.2))] 63 (0, 0))) := (Lw.grow_block (Lw.owns_two hown3) hgrow4 (by rw [Lw.size_two]; exact hsz3)).trans (Lw.two_cells HR3.out)
          have hb5 : Below w.heap.size w w4 := Lw.grow_below (Lw.below_two hb4) (Lw.owns_two hown3) hgrow4 (by rw [Lw.size_two]; exact Nat.le_of_lt hsz3)
          have HO5 : Hid (w4.ownsRow (w.heap.size + 1) 5 1 v4 (o ++ [q.2, !q.2]).length (Bm.cellsOf (Bm.row (o ++ [q.2, !q.2])))) := by
            rw [Sm.sv_sign q hp, Sm.sv_sign (1, !q.2) (by simp)] at hown4
            show World.ownsRow _ _ _ _ _ _ _
            rw [List.length_append]
            simpa [Bm.row, Bm.cellsOf] using hown4
          clear hgrow4 hown4 hown3
          go_roundw
          case rel => exact ⟨k + 1, (1, !q.2), o ++ [q.2, !q.2], by omega, by go_num, HO5, HR5, hb5, by rw [HI2.out, if_pos h5]; rfl, by simp, by simp; omega⟩
          case measure => simp [intOf]; omega
        · have t5 : ((q.1 : Int) == 5) = false := by simp; omega
          go_wp2_with (at_builtin; refine wpList_append_own _ rfl (.tmp 18) (.tmp 21) 61 rfl (w.heap.size + 1) 5 i0 (.int .u8 0) 1 1 Tryd.underlying61 hi hz0 hz1 hz2 rfl (by decide) u3 o.length _ rfl (HO2.out.alloc _) _ 1 1 [.int .u8 (Sm.sv q)] rfl rfl (cell_one_new _ _ _) (ints_oneCell .u8 [_]) hk1 (by omega) (by simp; omega) ?_; intro v3 w3 hown3 hgrow3 _; have HR3 : Hid (_) := (Lw.grow_block HO2.out hgrow3 hsz2).trans HR2.out; have g0 := Lw.cell0 HR3.out; have g1 := Lw.cell1 HR3.out; have hb4 := Lw.grow_below hb3 HO2.out hgrow3 (Nat.le_of_lt hsz2); clear hgrow3 hc0 hc1; have hsz3 : w.heap.size < w3.heap.size := (Array.getElem?_eq_some_iff.1 HR3.out).1; have fz0 := frozen_of_row _ _ 0 _ _ HR3.out; have fz1 := frozen_of_row _ _ 1 _ _ HR3.out)
          have HO4 : Hid (w3.ownsRow (w.heap.size + 1) 5 1 v3 (o ++ [q.2]).length (Bm.cellsOf (Bm.row (o ++ [q.2])))) := by
            rw [Sm.sv_sign q hp] at hown3
            show World.ownsRow _ _ _ _ _ _ _
            rw [List.length_append]
            simpa [Bm.row, Bm.cellsOf] using hown3
          go_roundw
          case rel => exact ⟨k + 1, q, o ++ [q.2], by omega, by go_num, HO4, HR3, hb4, by rw [HI2.out, if_neg h5]; rfl, by omega, by simp; omega⟩
          case measure => simp [intOf]; omega
    · have hcv := conv_own HO.out
      have HE : Hid (Sm.stuff (Bm.read s.data.toList) = o) := by
        show _ = _
        rw [HI.out, List.drop_of_length_le (by rw [Bm.length_read]; simp; omega)]
        rfl
      rw [← HE.out] at hcv
      clear HO HR HI
      go_wp2
      go_ret
      exact ⟨rfl, hb⟩
end Go.Proofs.YthappkhiiopfgabDoor
