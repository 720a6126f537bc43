/- What readHead of package frame answers, over the program's own text. -/
import Derived.Test.YtaphdehhnnglgaaDoorGy
import Derived.Test.YtaphdehhnnglgaaDoorGz
import Derived.Test.YtaphdehhnnglgaaDoorMc
import Derived.Test.YtaphdehhnnglgaaDoorMb
namespace Go.Proofs.YtaphdehhnnglgaaDoor
open Go.RowKit
theorem num_cutc (s : ByteArray) (i j : Nat) (hj : j ≤ s.size) (hs : s.size ≤ 1048576) (w : World) :
    Calls Tryd.prog 70 #[.string (s.extract i j)] w fun e w' => e = .returned (.int .u64 (Bm.num (Fm.cut (Bm.read s.data.toList) i (j - i)))) ∧ w' = w := by
  have h := num_any (s.extract i j) w (by unfold maxLen; simp; omega)
  rw [Fm.read_extract] at h
  exact h
theorem hcs_set (h : Fm.Hd) (k v : Nat) (hk : k < 8) : (hcs h).setIfInBounds k (.int .u64 (v : Int)) = hcs (h.set k v) := by
  match k, hk with
  | 0, _ | 1, _ | 2, _ | 3, _ | 4, _ | 5, _ | 6, _ | 7, _ => rfl
theorem hd_cells {w : World} {g : Nat} {h : Fm.Hd} {t : TypeId} (H : w.heap[g]? = some (.cells (hcs h) t (0, 0))) :
    w.cell? ⟨g, 0, none⟩ = some (.int .u64 h.a0) ∧ w.cell? ⟨g, 1, none⟩ = some (.int .u64 h.a1) ∧ w.cell? ⟨g, 2, none⟩ = some (.int .u64 h.a2) ∧ w.cell? ⟨g, 3, none⟩ = some (.int .u64 h.a3) ∧ w.cell? ⟨g, 4, none⟩ = some (.int .u64 h.a4) ∧ w.cell? ⟨g, 5, none⟩ = some (.int .u64 h.a5) ∧ w.cell? ⟨g, 6, none⟩ = some (.int .u64 h.a6) ∧ w.cell? ⟨g, 7, none⟩ = some (.int .u64 h.a7) := by
  obtain ⟨c0, c1, c2, c3, c4, c5, c6, c7, _⟩ := eight_cells H
  exact ⟨c0, c1, c2, c3, c4, c5, c6, c7⟩
theorem Tryd.infoU64 : (Tryd.prog.info? 43).map (·.size) = some 1 := by kernel_rfl
def hdv (q : Fm.Hd × Nat × Nat) : Value := .tuple #[.agg (hcs q.1), .int .i64 q.2.1, .int .i64 q.2.2]
set_option maxRecDepth 100000 in
set_option maxHeartbeats 4000000 in
theorem readHead_any (s : ByteArray) (w : World) (hT : Tab w) (hs : s.size ≤ 1048576) :
    Calls Tryd.prog 63 #[.string s] w fun e w' => e = .returned (hdv (Fm.rd (Bm.read s.data.toList) 8 0 0 Fm.Hd.zero)) ∧ Below w.heap.size w w' := by
  have HT : Hid (∀ w', Below w.heap.size w w' → Tab w') := fun w' hb => hT.below hb
  have hlen : (Bm.read s.data.toList).length = s.size := by rw [Bm.length_read]; simp
  have HN : Hid (∀ i j w, j ≤ s.size → Calls Tryd.prog 70 #[.string (s.extract i j)] w fun e w' => e = .returned (.int .u64 (Bm.num (Fm.cut (Bm.read s.data.toList) i (j - i)))) ∧ w' = w) := fun i j w h => num_cutc s i j h hs w
  clear hT
  generalize Bm.read s.data.toList = bs at *
  go_enter Tryd.func63, Tryd.ntmps63
  go_wp2
  go_loopw [6, 9] (fun p i wr => ∃ (k q : Nat) (h : Fm.Hd), k ≤ 8 ∧ q ≤ s.size ∧ h.ok ∧ i = .int .i64 k ∧ p = .int .i64 q ∧ Hid (Fm.rd bs 8 0 0 Fm.Hd.zero = Fm.rd bs (8 - k) k q h) ∧ Hid (wr.heap[w.heap.size]? = some (.cells (hcs Fm.Hd.zero) 66 (0, 0))) ∧ Hid (wr.heap[w.heap.size + 1]? = some (.cells (hcs h) 66 (0, 0))) ∧ Below w.heap.size w wr) (fun _ i _ => 8 - (intOf i).toNat)
  case atStart => exact ⟨0, 0, Fm.Hd.zero, Nat.zero_le _, Nat.zero_le _, Fm.zero_ok, rfl, rfl, rfl, heap_alloc2_old _ _ _, heap_alloc2_new _ _ _, ((Below.refl _ _).alloc (Nat.le_refl _) _).alloc (by simp) _⟩
  case round =>
    obtain ⟨k, q, h, hk, hq, ok, rfl, rfl, HR, HV, HG, hb⟩ := hrel
    have hz : w.heap.size + 2 ≤ wr.heap.size := (Array.getElem?_eq_some_iff.1 HG.out).1
    by_cases hlt : k < 8
    · have HX : Hid (∀ w, Calls Tryd.prog 59 #[.agg (hcs h)] w fun e w' => e = .returned (.bool h.ext) ∧ Below w.heap.size w w') := fun w => ext_any h w
      have HW : Hid (∀ w, Tab w → Calls Tryd.prog 57 #[.int .i64 (k : Int), .bool h.ext] w fun e w' => e = .returned (.int .i64 (Fm.wd h.ext k)) ∧ w' = w) := fun w hT => width_any k hlt h.ext w hT _ rfl
      have hwd := Fm.wd_le h.ext k
      have HS : Hid (Fm.rd bs 8 0 0 Fm.Hd.zero = if bs.length < q + Fm.wd h.ext k then (Fm.Hd.zero, 0, 10) else if (h.set k (Bm.num (Fm.cut bs q (Fm.wd h.ext k)))).wrong then (Fm.Hd.zero, 0, 12) else Fm.rd bs (8 - (k + 1)) (k + 1) (q + Fm.wd h.ext k) (h.set k (Bm.num (Fm.cut bs q (Fm.wd h.ext k))))) := by
        show _ = _
        rw [HR.out, show 8 - k = (8 - (k + 1)) + 1 from by omega, Fm.rd_go bs _ k q h _ _ rfl rfl]
      have HNq : Hid (q + Fm.wd h.ext k ≤ s.size → ∀ w, Calls Tryd.prog 70 #[.string (s.extract q (q + Fm.wd h.ext k))] w fun e w' => e = .returned (.int .u64 (Bm.num (Fm.cut bs q (Fm.wd h.ext k)))) ∧ w' = w) := fun hh w => by
        have := HN.out q (q + Fm.wd h.ext k) w hh
        rw [Nat.add_sub_cancel_left] at this
        exact this
      have hnum : Bm.num (Fm.cut bs q (Fm.wd h.ext k)) < 18446744073709551616 := Bm.num_lt _
      have ok2 := Fm.at_set_lt h k _ ok hnum
      have HSt : Hid (_) := hcs_set h k (Bm.num (Fm.cut bs q (Fm.wd h.ext k))) hlt
      rw [hlen] at HS
      clear HR HN
      obtain ⟨c0, c1, c2, c3, c4, c5, c6, c7⟩ := hd_cells HG.out
      have hT1 : Hid (Tab wr) := HT.out _ hb
      go_wp2_with fail
      refine (HX.out _).mono ?_
      rintro e w1 ⟨rfl, hb1⟩
      have HV1 : Hid (_) := block_on (by omega) hb1 HV.out
      have HG1 : Hid (_) := block_on (by omega) hb1 HG.out
      have hT2 : Hid (Tab w1) := hT1.out.below hb1
      have hb2 := below_join hb hb1
      have hz1 : w.heap.size + 2 ≤ w1.heap.size := by have := hb1.size; omega
      clear hb hb1 HV HG hT1 c0 c1 c2 c3 c4 c5 c6 c7
      go_wp2_with fail
      refine (HW.out _ hT2.out).mono ?_
      rintro e w2 ⟨rfl, rfl⟩
      generalize Fm.wd h.ext k = wk at *
      by_cases c : s.size < q + wk
      · have HE : Hid (_) := HS.out.trans (if_pos c)
        obtain ⟨x0, x1, x2, x3, x4, x5, x6, x7, z0, z1, z2, z3, z4, z5, z6, z7⟩ := eight_cells HV1.out
        go_wp2
        refine bodyPost_ret (v := hdv (Fm.Hd.zero, 0, 10)) (by simp [results, Tryd.results63, go_sem, hdv, hcs, Fm.Hd.zero, x0, x1, x2, x3, x4, x5, x6, x7]) rfl ⟨by rw [HE.out], ?_⟩
        exact (((((((hb2.setCell (Nat.le_refl _) _).setCell (Nat.le_refl _) _).setCell (Nat.le_refl _) _).setCell (Nat.le_refl _) _).setCell (Nat.le_refl _) _).setCell (Nat.le_refl _) _).setCell (Nat.le_refl _) _).setCell (Nat.le_refl _) _
      · have HE : Hid (_) := HS.out.trans (if_neg c)
        have HNk : Hid (_) := HNq.out (by omega)
        have HI : Hid ((Tryd.prog.info? 43).map (·.size) = some 1) := Tryd.infoU64
        generalize Bm.num (Fm.cut bs q wk) = nv at *
        generalize h.set k nv = h2 at *
        have HY : Hid (∀ w, Calls Tryd.prog 71 #[.agg (hcs h2)] w fun e w' => e = .returned (.bool h2.wrong) ∧ Below w.heap.size w w') := fun w => wrong_any h2 w
        clear HS HNq HX HW
        go_wp2_with fail
        refine (HNk.out _).mono ?_
        rintro e w3 ⟨rfl, rfl⟩
        go_wp2_with (refine Lw.wpList_store_cellB (P := Tryd.prog) rfl 43 (.tmp 29) (.tmp 28) rfl (w.heap.size + 1) k (.int .u64 (nv : Int)) rfl rfl rfl 66 (hcs h) HG1.out HI.out hlt w.heap.size w hb2 (Nat.le_succ _) ?_; intro w4 HG4 HO4 HZ4 hb4; rw [HSt.out] at HG4; obtain ⟨c0, c1, c2, c3, c4, c5, c6, c7⟩ := hd_cells HG4.out)
        have HV4 : Hid (_) := (HO4.out w.heap.size (by omega)).trans HV1.out
        have hz4 : w.heap.size + 2 ≤ w4.heap.size := by rw [HZ4.out]; exact hz1
        clear HG1 HV1 hb2 HO4 HZ4 hz1 HNk HI HSt
        refine (HY.out _).mono ?_
        rintro e w5 ⟨rfl, hb5⟩
        have HV5 : Hid (_) := block_on (by omega) hb5 HV4.out
        have HG5 : Hid (_) := block_on (by omega) hb5 HG4.out
        have hb6 := below_join hb4 hb5
        clear hb4 hb5 HG4 HV4 c0 c1 c2 c3 c4 c5 c6 c7 hz4 HY
        cases hw : h2.wrong
        · have HE2 : Hid (_) := HE.out.trans (if_neg (by rw [hw]; decide))
          clear hw HE
          go_wp2
          go_roundw
          case rel => exact ⟨k + 1, q + wk, h2, by omega, by omega, ok2, by go_num, by go_num, HE2, HV5, HG5, hb6⟩
          case measure => simp [intOf]; omega
        · have HE2 : Hid (_) := HE.out.trans (if_pos hw)
          clear hw HE
          obtain ⟨x0, x1, x2, x3, x4, x5, x6, x7, z0, z1, z2, z3, z4, z5, z6, z7⟩ := eight_cells HV5.out
          go_wp2
          refine bodyPost_ret (v := hdv (Fm.Hd.zero, 0, 12)) (by simp [results, Tryd.results63, go_sem, hdv, hcs, Fm.Hd.zero, x0, x1, x2, x3, x4, x5, x6, x7]) rfl ⟨by rw [HE2.out], ?_⟩
          exact (((((((hb6.setCell (Nat.le_refl _) _).setCell (Nat.le_refl _) _).setCell (Nat.le_refl _) _).setCell (Nat.le_refl _) _).setCell (Nat.le_refl _) _).setCell (Nat.le_refl _) _).setCell (Nat.le_refl _) _).setCell (Nat.le_refl _) _
    · obtain rfl : k = 8 := by omega
      obtain ⟨c0, c1, c2, c3, c4, c5, c6, c7⟩ := hd_cells HG.out
      obtain ⟨x0, x1, x2, x3, x4, x5, x6, x7, z0, z1, z2, z3, z4, z5, z6, z7⟩ := eight_cells HV.out
      have HE : Hid (Fm.rd bs 8 0 0 Fm.Hd.zero = (h, q, 0)) := HR.out
      clear HR HN
      go_wp2
      refine bodyPost_ret (v := hdv (h, q, 0)) (by simp [results, Tryd.results63, go_sem, hdv, hcs, x0, x1, x2, x3, x4, x5, x6, x7]) rfl ⟨by rw [HE.out], ?_⟩
      exact (((((((hb.setCell (Nat.le_refl _) _).setCell (Nat.le_refl _) _).setCell (Nat.le_refl _) _).setCell (Nat.le_refl _) _).setCell (Nat.le_refl _) _).setCell (Nat.le_refl _) _).setCell (Nat.le_refl _) _).setCell (Nat.le_refl _) _
end Go.Proofs.YtaphdehhnnglgaaDoor
