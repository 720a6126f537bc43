/- What Stuff of package stuff answers, over the program's own text. -/
import Derived.Test.YtaphdehhnnglgabDoorX4
namespace Go.Proofs.YtaphdehhnnglgabDoor
open Go.RowKit
/-- a row of signs as the walk reads it -/
theorem row_data (bs : List Bool) : Bm.read (ByteArray.mk (Bm.row bs).toArray).data.toList = bs := by
  show Bm.read (Bm.row bs).toArray.toList = bs
  rw [List.toList_toArray, Bm.read_row]
theorem row_size (bs : List Bool) : (ByteArray.mk (Bm.row bs).toArray).size = bs.length := by rw [size_str, Bm.length_row]
theorem row_sign (bs : List Bool) (k : Nat) (h : k < (ByteArray.mk (Bm.row bs).toArray).size) : ((ByteArray.mk (Bm.row bs).toArray)[k].toNat : Int) = Sm.sg (Bm.isOne (ByteArray.mk (Bm.row bs).toArray)[k]) := by
  have hk : k < bs.length := by rw [← row_size bs]; exact h
  have e : (ByteArray.mk (Bm.row bs).toArray)[k] = Bm.sign bs[k] := by
    show (Bm.row bs).toArray[k]'(by simpa [Bm.length_row] using hk) = _
    simp [Bm.row]
  rw [e]
  cases bs[k] <;> decide
theorem rother_q (q : Nat × Bool) (hq : 0 < q.1) (n : Int) (w : World) :
    Calls Tryd.prog 37 #[.agg #[.int .u8 (Sm.sv q), .int .i64 n]] w fun e w' => e = .returned (.int .u8 (Sm.sg (!q.2))) ∧ Below w.heap.size w w' := by
  have e : Sm.sv q = Sm.sg q.2 := by unfold Sm.sv; rw [if_neg (by omega)]
  rw [e]
  exact rother_any q.2 n w
theorem rwith_other (q : Nat × Bool) (hq : 0 < q.1) (hn : q.1 ≤ 1048576) (w : World) :
    Calls Tryd.prog 35 #[.agg #[.int .u8 (Sm.sv q), .int .i64 q.1], .int .u8 (Sm.sg (!q.2))] w fun e w' => e = .returned (.agg #[.int .u8 (Sm.sv (1, !q.2)), .int .i64 (1 : Nat)]) ∧ Below w.heap.size w w' := by
  have e : Sm.sv q = Sm.sg q.2 := by unfold Sm.sv; rw [if_neg (by omega)]
  have e2 : Sm.sv (1, !q.2) = Sm.sg (!q.2) := by unfold Sm.sv; rw [if_neg (by simp)]
  rw [e, e2]
  refine (rwith_any _ _ (q.1 : Int) w (by omega) (by omega)).mono ?_
  rintro e w' ⟨rfl, hb⟩
  refine ⟨?_, hb⟩
  rw [if_neg (by cases q.2 <;> decide)]
  rfl
set_option maxRecDepth 100000 in
set_option maxHeartbeats 2000000 in
theorem stuff_any (s : ByteArray) (w : World) (hs : s.size ≤ 1048576) :
    Calls Tryd.prog 19 #[.string s] w fun e w' => e = .returned (.string ⟨(Bm.row (Sm.stuff (Bm.read s.data.toList))).toArray⟩) ∧ Below w.heap.size w w' := by
  obtain ⟨i0, hi, hz0, hz1, hz2⟩ := info_parts Tryd.infoU8
  obtain ⟨bs, hbs⟩ : ∃ bs, Bm.read s.data.toList = bs := ⟨_, rfl⟩
  have HL : Hid (bs.length = s.size) := by show _ = _; rw [← hbs, Bm.length_read]; simp
  have HS := fun w => signs_any s w hs
  rw [hbs] at HS
  rw [hbs]
  clear hbs
  obtain ⟨t, ht⟩ : ∃ t, t = ByteArray.mk (Bm.row bs).toArray := ⟨_, rfl⟩
  rw [← ht] at HS
  have hrow' : Hid (∀ k (h : k < t.size), (t[k].toNat : Int) = Sm.sg (Bm.isOne t[k])) := by subst ht; exact row_sign bs
  have hts : t.size = s.size := by rw [ht, row_size]; exact HL.out
  have HB : Hid (bs = Bm.read t.data.toList) := by show _ = _; rw [ht, row_data]
  rw [HB.out]
  rw [← hts] at hs
  have HS' : Hid (∀ w, Calls Tryd.prog 34 #[.string s] w fun e w' => e = .returned (.string t) ∧ Below w.heap.size w w') := HS
  clear ht HL HB hts HS
  go_enter Tryd.func19, Tryd.ntmps19
  go_wp2_with fail
  refine (HS'.out _).mono ?_
  rintro e w0 ⟨rfl, hb0⟩
  clear HS'
  go_wp2_with (at_make; refine wpList_make_own _ rfl (.const (.int .i64 0)) (.tmp 15) 41 rfl w.heap.size 5 i0 (.int .u8 0) 1 Tryd.underlying41 hi hz0 hz1 .i64 .i64 _ (t.size + t.size / 4 + 1) rfl rfl (by omega) (by rw [hz2]; omega) (by unfold maxLen; omega) hb0.size ?_; intro w1 hown1 hgrow1)
  have hb1 : Below w.heap.size w w1 := hb0.grown hgrow1 hb0.size (fun g hg => by cases hg)
  obtain ⟨E, hE⟩ : ∃ E, E = w1.heap.size := ⟨_, rfl⟩
  have hwE : w.heap.size ≤ E := by rw [hE]; exact hb1.size
  rw [← hE]
  have HO1 : Hid ((w1.alloc (.cells #[.int .u8 0, .int .i64 0] 60)).ownsRow w.heap.size 5 1 (.slice (some ⟨w0.heap.size, 0, none⟩) 0 (t.size + t.size / 4 + 1)) 0 []) := hown1.alloc _
  have HR1 : Hid ((w1.alloc (.cells #[.int .u8 0, .int .i64 0] 60)).heap[E]? = some (.cells #[.int .u8 0, .int .i64 0] 60 (0, 0))) := by rw [hE]; exact heap_alloc_new _ _
  have hb2 := hb1.alloc hb1.size (.cells #[.int .u8 0, .int .i64 0] 60)
  clear hgrow1 hown1 hE
  go_loopw [4, 19] (fun v i wr => ∃ (k : Nat) (r : Nat × Bool) (o : List Bool), k ≤ t.size ∧ i = .int .i64 k ∧ Hid (wr.ownsRow w.heap.size 5 1 v o.length (Bm.cellsOf (Bm.row o))) ∧ Hid (wr.heap[E]? = some (.cells #[.int .u8 (Sm.sv r), .int .i64 r.1] 60 (0, 0))) ∧ Below w.heap.size w wr ∧ Hid (Sm.stuff (Bm.read t.data.toList) = Sm.stB r o ((Bm.read t.data.toList).drop k)) ∧ r.1 < 5 ∧ o.length ≤ 2 * k)
    (fun _ i _ => t.size - (intOf i).toNat)
  case atStart => exact ⟨0, (0, false), [], Nat.zero_le _, rfl, HO1, HR1, hb2, rfl, by decide, by decide⟩
  case round =>
    obtain ⟨k, r, o, hk, rfl, HO, HR, hb, HI, hr, ho⟩ := hrel
    by_cases hlt : k < t.size
    · have hsz : E < wr.heap.size := (Array.getElem?_eq_some_iff.1 HR.out).1
      have hwz : w.heap.size ≤ wr.heap.size := hb.size
      have hc0 := Lw.cell0 HR.out
      have hc1 := Lw.cell1 HR.out
      have HX : Hid ((t[k].toNat : Int) = Sm.sg (Bm.isOne t[k])) := hrow'.out k hlt
      have hk1 : o.length + 1 ≤ maxLen := by unfold maxLen; omega
      have hk2 : o.length + 1 + 1 ≤ maxLen := by unfold maxLen; omega
      go_wp2_with (at_builtin; refine wpList_append_own _ rfl (.tmp 22) (.tmp 26) 41 rfl w.heap.size 5 i0 (.int .u8 0) 1 1 Tryd.underlying41 hi hz0 hz1 hz2 rfl (by decide) u4 o.length _ rfl (HO.out.alloc _) _ 1 1 [.int .u8 (t[k].toNat : Int)] rfl rfl (cell_one_new _ _ _) (ints_oneCell .u8 [_]) hk1 (by omega) (by simp; omega) ?_; intro v3 w3 hown3 hgrow3 _; have HR3 : Hid (_) := Lw.grow_block_t HO.out HR.out (by decide) hgrow3; have hb4 := Lw.grow_below_t hb HO.out hgrow3 hwz; clear hgrow3 hc0 hc1; have hc0 := Lw.cell0 HR3.out; have hc1 := Lw.cell1 HR3.out)
      have HO3 : Hid (w3.ownsRow w.heap.size 5 1 v3 (o.length + 1) (Bm.cellsOf (Bm.row o) ++ [.int .u8 (t[k].toNat : Int)])) := hown3
      clear hown3 HO HR hb hsz hwz
      have hsz : E < w3.heap.size := (Array.getElem?_eq_some_iff.1 HR3.out).1
      go_region_with (go_at_call 35; refine (rwith_step _ _ _ HX.out (by omega)).mono ?_; rintro e w4 ⟨rfl, hb5⟩; have d0 := (hb5.cell (p := ⟨E, 0, none⟩) hsz).trans hc0; have d1 := (hb5.cell (p := ⟨E, 1, none⟩) hsz).trans hc1; have f0 := (hb5.frozen (p := ⟨E, 0, none⟩) hsz).trans (frozen_of_row _ _ _ _ _ HR3.out); have f1 := (hb5.frozen (p := ⟨E, 1, none⟩) hsz).trans (frozen_of_row _ _ _ _ _ HR3.out))
      all_goals
        clear hc0 hc1 d0 d1 f0 f1
        have HR4 : Hid (w4.heap[E]? = some (.cells #[.int .u8 (Sm.sv r), .int .i64 r.1] 60 (0, 0))) := (hb5.block E hsz).trans HR3.out
        have HO4 : Hid (w4.ownsRow w.heap.size 5 1 v3 (o.length + 1) (Bm.cellsOf (Bm.row o) ++ [.int .u8 (t[k].toNat : Int)])) := Lw.owns_keep HO3.out (fun g _ hg => hb5.block g hg)
        have hb6 : Below w.heap.size w w4 := hb4.drew.trans (hb5.mono hb4.size)
        clear HR3 HO3 hb4 hb5
        obtain ⟨w5, hw5⟩ : ∃ w5, w5 = ((w4.setCell ⟨E, 0, none⟩ (.int .u8 (Sm.sv (Sm.step r (Bm.isOne t[k]))))).setCell ⟨E, 1, none⟩ (.int .i64 (Sm.step r (Bm.isOne t[k])).1)) := ⟨_, rfl⟩
        rw [← hw5]
        have HR5 : Hid (w5.heap[E]? = some (.cells #[.int .u8 (Sm.sv (Sm.step r (Bm.isOne t[k]))), .int .i64 (Sm.step r (Bm.isOne t[k])).1] 60 (0, 0))) := by
          rw [hw5]; exact Lw.two_cells HR4.out
        have HO5 : Hid (w5.ownsRow w.heap.size 5 1 v3 (o.length + 1) (Bm.cellsOf (Bm.row o) ++ [.int .u8 (t[k].toNat : Int)])) := by
          rw [hw5]; exact Lw.owns_two_t HO4.out HR4.out (by decide)
        have hb7 : Below w.heap.size w w5 := by
          rw [hw5]; exact Lw.below_two_t hwE hb6
        clear hw5 HR4 HO4 hb6 hsz
        have HI2 : Hid (Sm.stuff (Bm.read t.data.toList) = if (Sm.step r (Bm.isOne t[k])).1 = 5 then Sm.stB (1, !(Sm.step r (Bm.isOne t[k])).2) (o ++ [(Sm.step r (Bm.isOne t[k])).2, !(Sm.step r (Bm.isOne t[k])).2]) ((Bm.read t.data.toList).drop (k + 1)) else Sm.stB (Sm.step r (Bm.isOne t[k])) (o ++ [(Sm.step r (Bm.isOne t[k])).2]) ((Bm.read t.data.toList).drop (k + 1))) := by
          show _ = _
          rw [HI.out, Bm.read_drop t k hlt, Sm.step_snd]
          rfl
        have HY : Hid ((t[k].toNat : Int) = ((Bm.sign (Sm.step r (Bm.isOne t[k])).2).toNat : Int)) := by
          show _ = _
          rw [HX.out, Sm.step_snd, Sm.sg_sign]
        rw [HY.out] at HO5
        have HO6 : Hid (w5.ownsRow w.heap.size 5 1 v3 (o ++ [(Sm.step r (Bm.isOne t[k])).2]).length (Bm.cellsOf (Bm.row (o ++ [(Sm.step r (Bm.isOne t[k])).2])))) := by
          have h := HO5.out
          show World.ownsRow _ _ _ _ _ _ _
          rw [List.length_append]
          simpa [Bm.row, Bm.cellsOf] using h
        have hp := Sm.step_pos r (Bm.isOne t[k])
        have hle := Sm.step_le r (Bm.isOne t[k])
        generalize Sm.step r (Bm.isOne t[k]) = q at *
        clear HO5 HI HX HY
        have hsz : E < w5.heap.size := (Array.getElem?_eq_some_iff.1 HR5.out).1
        have hc0 := Lw.cell0 HR5.out
        have hc1 := Lw.cell1 HR5.out
        go_wp2_with fail
        refine (rfull_any _ _ _).mono ?_
        rintro e w6 ⟨rfl, hb8⟩
        have HR6 : Hid (w6.heap[E]? = some (.cells #[.int .u8 (Sm.sv q), .int .i64 q.1] 60 (0, 0))) := (hb8.block E hsz).trans HR5.out
        have HO7 : Hid (w6.ownsRow w.heap.size 5 1 v3 (o ++ [q.2]).length (Bm.cellsOf (Bm.row (o ++ [q.2])))) := Lw.owns_keep HO6.out (fun g _ hg => hb8.block g hg)
        have hb9 : Below w.heap.size w w6 := hb7.trans (hb8.mono hb7.size)
        clear hc0 hc1 HR5 HO6 hb7 hb8 hsz
        have hsz : E < w6.heap.size := (Array.getElem?_eq_some_iff.1 HR6.out).1
        have hc0 := Lw.cell0 HR6.out
        have hc1 := Lw.cell1 HR6.out
        by_cases h5 : q.1 = 5
        · have t5 : decide (5 ≤ (q.1 : Int)) = true := by rw [h5]; rfl
          rw [t5]
          have H5 : Hid (q.1 = 5) := h5
          have hq5 : q.1 ≤ 1048576 := by omega
          clear h5 t5
          go_wp2_with fail
          refine (rother_q q hp _ _).mono ?_
          rintro e w7 ⟨rfl, hb10⟩
          have HR7 : Hid (w7.heap[E]? = some (.cells #[.int .u8 (Sm.sv q), .int .i64 q.1] 60 (0, 0))) := (hb10.block E hsz).trans HR6.out
          have HO8 : Hid (w7.ownsRow w.heap.size 5 1 v3 (o ++ [q.2]).length (Bm.cellsOf (Bm.row (o ++ [q.2])))) := Lw.owns_keep HO7.out (fun g _ hg => hb10.block g hg)
          have hb11 : Below w.heap.size w w7 := hb9.trans (hb10.mono hb9.size)
          clear hc0 hc1 HR6 HO7 hb9 hb10 hsz
          have hwz : w.heap.size ≤ w7.heap.size := hb11.size
          have hll : (o ++ [q.2]).length + 1 ≤ maxLen := by simpa using hk2
          have hlb : (o ++ [q.2]).length ≤ 2097153 := by simp; omega
          go_wp2_with (at_builtin; refine wpList_append_own _ rfl (.tmp 35) (.tmp 38) 41 rfl w.heap.size 5 i0 (.int .u8 0) 1 1 Tryd.underlying41 hi hz0 hz1 hz2 rfl (by decide) v3 (o ++ [q.2]).length _ rfl (HO8.out.alloc _) _ 1 1 [.int .u8 (Sm.sg (!q.2))] rfl rfl (cell_one_new _ _ _) (ints_oneCell .u8 [_]) hll (by omega) (by simp; omega) ?_; intro v4 w8 hown8 hgrow8 _; have HR8 : Hid (_) := Lw.grow_block_t HO8.out HR7.out (by decide) hgrow8; have hb12 := Lw.grow_below_t hb11 HO8.out hgrow8 hwz; clear hgrow8; have hc0 := Lw.cell0 HR8.out; have hc1 := Lw.cell1 HR8.out)
          have HO9 : Hid (w8.ownsRow w.heap.size 5 1 v4 (o ++ [q.2, !q.2]).length (Bm.cellsOf (Bm.row (o ++ [q.2, !q.2])))) := by
            rw [Sm.sg_sign] at hown8
            show World.ownsRow _ _ _ _ _ _ _
            rw [List.length_append]
            simpa [Bm.row, Bm.cellsOf] using hown8
          clear hown8 HO8 HR7 hb11 hwz hll hlb
          have hsz : E < w8.heap.size := (Array.getElem?_eq_some_iff.1 HR8.out).1
          go_region_with (first | (go_at_call 37; refine (rother_q q hp _ _).mono ?_; rintro e w9 ⟨rfl, hb13⟩; have hsz9 : E < w9.heap.size := Nat.lt_of_lt_of_le hsz hb13.size; have d0 := (hb13.cell (p := ⟨E, 0, none⟩) hsz).trans hc0; have d1 := (hb13.cell (p := ⟨E, 1, none⟩) hsz).trans hc1; have f0 := (hb13.frozen (p := ⟨E, 0, none⟩) hsz).trans (frozen_of_row _ _ _ _ _ HR8.out); have f1 := (hb13.frozen (p := ⟨E, 1, none⟩) hsz).trans (frozen_of_row _ _ _ _ _ HR8.out)) | (go_at_call 35; refine (rwith_other q hp hq5 _).mono ?_; rintro e w10 ⟨rfl, hb14⟩; have d2 := (hb14.cell (p := ⟨E, 0, none⟩) hsz9).trans d0; have d3 := (hb14.cell (p := ⟨E, 1, none⟩) hsz9).trans d1; have f2 := (hb14.frozen (p := ⟨E, 0, none⟩) hsz9).trans f0; have f3 := (hb14.frozen (p := ⟨E, 1, none⟩) hsz9).trans f1))
          all_goals
            clear hc0 hc1 d0 d1 f0 f1 d2 d3 f2 f3
            have HR9 : w9.heap[E]? = some (.cells #[.int .u8 (Sm.sv q), .int .i64 q.1] 60 (0, 0)) := (hb13.block E hsz).trans HR8.out
            have HR10 : w10.heap[E]? = some (.cells #[.int .u8 (Sm.sv q), .int .i64 q.1] 60 (0, 0)) := (hb14.block E hsz9).trans HR9
            have HO10 := Lw.owns_keep HO9.out.drew (fun g _ hg => hb13.block g hg)
            have HO11 := Lw.owns_keep HO10 (fun g _ hg => hb14.block g hg)
            have hb15 : Below w.heap.size w w9 := hb12.drew.trans (hb13.mono hb12.size)
            have hb16 : Below w.heap.size w w10 := hb15.trans (hb14.mono hb15.size)
            have HR11 : Hid (((w10.setCell ⟨E, 0, none⟩ (.int .u8 (Sm.sv (1, !q.2)))).setCell ⟨E, 1, none⟩ (.int .i64 (1 : Nat))).heap[E]? = some (.cells #[.int .u8 (Sm.sv (1, !q.2)), .int .i64 (1 : Nat)] 60 (0, 0))) := Lw.two_cells HR10
            have HO12 : Hid (((w10.setCell ⟨E, 0, none⟩ (.int .u8 (Sm.sv (1, !q.2)))).setCell ⟨E, 1, none⟩ (.int .i64 (1 : Nat))).ownsRow w.heap.size 5 1 v4 (o ++ [q.2, !q.2]).length (Bm.cellsOf (Bm.row (o ++ [q.2, !q.2])))) := Lw.owns_two_t HO11 HR10 (by decide)
            have hb17 := Lw.below_two_t (a' := .int .u8 (Sm.sv (1, !q.2))) (b' := .int .i64 (1 : Nat)) hwE hb16
            clear HR9 HR10 HO10 HO11 hb15 hb16 hb13 hb14 hb12 HR8 HO9
            go_wp2
            go_roundw
            case rel => exact ⟨k + 1, (1, !q.2), o ++ [q.2, !q.2], by omega, by go_num, HO12, HR11, hb17, by rw [HI2.out, if_pos H5.out]; rfl, by simp, by simp; omega⟩
            case measure => simp [intOf]; omega
        · have t5 : decide (5 ≤ (q.1 : Int)) = false := by simp; omega
          rw [t5]
          go_wp2
          go_roundw
          case rel => exact ⟨k + 1, q, o ++ [q.2], by omega, by go_num, HO7, HR6, hb9, by rw [HI2.out, if_neg h5]; rfl, by omega, by simp; omega⟩
          case measure => simp [intOf]; omega
    · have hcv := conv_own HO.out
      have HE : Hid (Sm.stuff (Bm.read t.data.toList) = o) := by
        show _ = _
        rw [HI.out, List.drop_of_length_le (by rw [Bm.length_read]; simp; omega)]
        rfl
      rw [← HE.out] at hcv
      clear HO HR HI
      go_wp2
      go_ret
      exact ⟨rfl, hb⟩
end Go.Proofs.YtaphdehhnnglgabDoor
