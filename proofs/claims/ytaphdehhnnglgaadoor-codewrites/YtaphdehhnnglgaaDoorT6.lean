/- What the document's own Parse of frames answers, over its text. -/
import Derived.Test.YtaphdehhnnglgaaDoorT2
import Derived.Test.YtaphdehhnnglgaaDoorMa
import Derived.Test.YtaphdehhnnglgaaDoorMb
import Derived.Test.YtaphdehhnnglgaaDoorMe
namespace Go.Proofs.YtaphdehhnnglgaaDoor
open Go.RowKit
theorem refNum_cut (s : ByteArray) (i j : Nat) (hj : j ≤ s.size) (hs : s.size ≤ 1048576) (w : World) :
    Calls Tryd.prog 68 #[.string (s.extract i j)] w fun e w' => e = .returned (.int .u64 (Bm.num (Fm.cut (Bm.read s.data.toList) i (j - i)))) ∧ w' = w := by
  have h := refNum_any (s.extract i j) w (by unfold maxLen; simp; omega)
  rw [Fm.read_extract] at h
  exact h
theorem refBytes_cut (s : ByteArray) (i l : Nat) (hj : i + l ≤ s.size) (hs : s.size ≤ 1048576) (w : World) :
    Calls Tryd.prog 69 #[.string (s.extract i (i + l))] w fun e w' => e = .returned (.string ⟨(Bm.bytes (Fm.cut (Bm.read s.data.toList) i l)).toArray⟩) ∧ Below w.heap.size w w' := by
  have h := refBytes_any (s.extract i (i + l)) w (by simp; omega)
  rw [Fm.read_extract, Nat.add_sub_cancel_left] at h
  exact h
theorem or_join (a b : Nat) (ha : a < 2048) (hb : b < 262144) : bits .or .u32 ((a : Int) * 262144) (b : Int) = ((a * 262144 + b : Nat) : Int) := by
  have e : ((a : Int) * 262144) = ((a * 262144 : Nat) : Int) := by simp
  rw [e, u32_or_nat _ _ (by omega) (by omega)]
  congr 1
  have h := Nat.two_pow_add_eq_or_of_lt (i := 18) (b := b) (by simpa using hb) a
  rw [Nat.mul_comm a 262144]
  exact h.symm
def fv (p : (Bool × Nat × Bool × List UInt8) × Nat × Nat) : Value := .tuple #[.agg #[.bool p.1.1, .int .u32 p.1.2.1, .bool p.1.2.2.1, .string ⟨p.1.2.2.2.toArray⟩], .int .i64 p.2.1, .int .i64 p.2.2]
theorem set1 {w : World} {g : Nat} {a b c d : Value} {t : TypeId} (h : w.heap[g]? = some (.cells #[a, b, c, d] t (0, 0))) (v : Value) : (w.setCell ⟨g, 1, none⟩ v).heap[g]? = some (.cells #[a, v, c, d] t (0, 0)) := by
  rw [heap_setCell_same _ _ _ _ _ _ h]; rfl
theorem set2 {w : World} {g : Nat} {a b c d : Value} {t : TypeId} (h : w.heap[g]? = some (.cells #[a, b, c, d] t (0, 0))) (v : Value) : (w.setCell ⟨g, 2, none⟩ v).heap[g]? = some (.cells #[a, b, v, d] t (0, 0)) := by
  rw [heap_setCell_same _ _ _ _ _ _ h]; rfl
set_option maxRecDepth 100000 in
set_option maxHeartbeats 8000000 in
theorem refFParse_ext (s : ByteArray) (w : World) (hs : s.size ≤ 1048576) (c5 : ¬ s.size < 33) (q0 : (Bm.read s.data.toList).getD 0 false = false) (q13 : (Bm.read s.data.toList).getD 13 false = true) (q12 : (Bm.read s.data.toList).getD 12 false = true) :
    Calls Tryd.prog 56 #[.string s] w fun e w' => e = .returned (fv (Fm.parse (Bm.read s.data.toList))) ∧ Below w.heap.size w w' := by
  have hlen : (Bm.read s.data.toList).length = s.size := by rw [Bm.length_read]; simp
  have HN : Hid (∀ i j w, j ≤ s.size → Calls Tryd.prog 68 #[.string (s.extract i j)] w fun e w' => e = .returned (.int .u64 (Bm.num (Fm.cut (Bm.read s.data.toList) i (j - i)))) ∧ w' = w) := fun i j w h => refNum_cut s i j h hs w
  obtain ⟨r, hr⟩ : ∃ r, (Bm.read s.data.toList).getD 32 false = r := ⟨_, rfl⟩
  have h0 := Fm.one_dec s 0 (by omega)
  have h12 := Fm.one_dec s 12 (by omega)
  have h13 := Fm.one_dec s 13 (by omega)
  have h32 := Fm.one_dec s 32 (by omega)
  rw [q0] at h0
  rw [q12] at h12
  rw [q13] at h13
  rw [hr] at h32
  have HE : Hid (Fm.parse (Bm.read s.data.toList) = Fm.parseL (Bm.read s.data.toList) true (Bm.num (Fm.cut (Bm.read s.data.toList) 1 11) * 262144 + Bm.num (Fm.cut (Bm.read s.data.toList) 14 18)) r 35) := by
    show _ = _
    unfold Fm.parse
    rw [hlen, if_neg (by omega), q0, if_neg (by decide), if_neg (by omega), q13, if_pos rfl, q12, if_pos rfl, if_neg (by omega), hr]
  have N1' : Hid (∀ w, Calls Tryd.prog 68 #[.string (s.extract 1 12)] w fun e w' => e = .returned (.int .u64 (Bm.num (Fm.cut (Bm.read s.data.toList) 1 11))) ∧ w' = w) := fun w => HN.out 1 12 w (by omega)
  have N2' : Hid (∀ w, Calls Tryd.prog 68 #[.string (s.extract 14 32)] w fun e w' => e = .returned (.int .u64 (Bm.num (Fm.cut (Bm.read s.data.toList) 14 18))) ∧ w' = w) := fun w => HN.out 14 32 w (by omega)
  have L1 : Bm.num (Fm.cut (Bm.read s.data.toList) 1 11) < 2048 := Fm.num_cut (Bm.read s.data.toList) 1 11
  have L2 : Bm.num (Fm.cut (Bm.read s.data.toList) 14 18) < 262144 := Fm.num_cut (Bm.read s.data.toList) 14 18
  generalize Fm.parse (Bm.read s.data.toList) = res at *
  generalize Bm.num (Fm.cut (Bm.read s.data.toList) 1 11) = n1 at *
  generalize Bm.num (Fm.cut (Bm.read s.data.toList) 14 18) = n2 at *
  have HO : bits .or .u32 ((n1 : Int) * 262144) (n2 : Int) = ((n1 * 262144 + n2 : Nat) : Int) := or_join n1 n2 L1 L2
  have hn : n1 * 262144 + n2 < 536870912 := by omega
  obtain ⟨n, hne⟩ : ∃ n, n = n1 * 262144 + n2 := ⟨_, rfl⟩
  rw [← hne] at HE HO hn
  clear hne q0 q12 q13 hr
  go_enter Tryd.func56, Tryd.ntmps56
  go_wp2_with fail
  refine (N1'.out _).mono ?_
  rintro e w1 ⟨rfl, rfl⟩
  go_wp2_with fail
  refine Lw.region_tail 9 (by kernel_rfl) (by kernel_rfl) ?_
  intro w1 hw1
  have hb1 : Below w.heap.size w w1 := hw1 ▸ (((Below.refl _ _).alloc (Nat.le_refl _) _).alloc (by simp) _).drew
  have HA1 : Hid (w1.heap[w.heap.size]? = some (.cells #[.bool false, .int .u32 0, .bool false, .string ⟨#[]⟩] 24 (0, 0))) := by subst hw1; exact heap_alloc2_old _ _ _
  have HB1 : Hid (w1.heap[w.heap.size + 1]? = some (.cells #[.bool true, .int .u32 n1, .bool false, .string ⟨#[]⟩] 24 (0, 0))) := by subst hw1; exact heap_alloc2_new _ _ _
  clear hw1
  obtain ⟨x0, x1, x2, x3, v0, v1, v2, v3⟩ := four_cells HA1.out
  obtain ⟨y0, y1, y2, y3, z0, z1, z2, z3⟩ := four_cells HB1.out
  simp only [List.take_succ_cons, List.take_zero, List.drop_succ_cons, List.drop_zero]
  have hs32 : (32 : Int) ≤ (s.size : Int) := by omega
  have hw1 : IntKind.u32.wrap ((n1 : Int) * 262144) = (n1 : Int) * 262144 := by rw [IntKind.wrap_u32]; omega
  have hw2 : IntKind.u32.wrap (n2 : Int) = (n2 : Int) := by rw [IntKind.wrap_u32]; omega
  repeat (first | still_step | still_call (N2'.out _))
  clear hs32 hw1 hw2
  refine wpStill_nil ?_
  have HA4 : Hid (((w1.setCell ⟨w.heap.size + 1, 1, none⟩ (.int .u32 n)).setCell ⟨w.heap.size + 1, 2, none⟩ (.bool r)).heap[w.heap.size]? = some (.cells #[.bool false, .int .u32 0, .bool false, .string ⟨#[]⟩] 24 (0, 0))) := by
    show _ = _
    rw [heap_setCell_other _ ⟨w.heap.size + 1, 2, none⟩ w.heap.size _ (Nat.ne_of_lt (Nat.lt_succ_self _)), heap_setCell_other _ ⟨w.heap.size + 1, 1, none⟩ w.heap.size _ (Nat.ne_of_lt (Nat.lt_succ_self _))]
    exact HA1.out
  have HB4 : Hid (((w1.setCell ⟨w.heap.size + 1, 1, none⟩ (.int .u32 n)).setCell ⟨w.heap.size + 1, 2, none⟩ (.bool r)).heap[w.heap.size + 1]? = some (.cells #[.bool true, .int .u32 n, .bool r, .string ⟨#[]⟩] 24 (0, 0))) := set2 (set1 HB1.out _) _
  have hb4 : Below w.heap.size w ((w1.setCell ⟨w.heap.size + 1, 1, none⟩ (.int .u32 n)).setCell ⟨w.heap.size + 1, 2, none⟩ (.bool r)) := (hb1.setCell (Nat.le_succ _) _).setCell (Nat.le_succ _) _
  by_cases c6 : s.size < 39
  · have HE2 : Hid (res = Fm.none_ 10) := by show _ = _; rw [HE.out]; unfold Fm.parseL; rw [if_pos (by omega)]
    clear HA4 HB4 N1' N2' HN
    go_wp2
    exact bodyPost_ret (v := fv (Fm.none_ 10)) (by simp [results, Tryd.results56, go_sem, fv, Fm.none_, x0, x1, x2, x3]) rfl ⟨by rw [HE2.out], (((hb4.setCell (Nat.le_refl _) _).setCell (Nat.le_refl _) _).setCell (Nat.le_refl _) _).setCell (Nat.le_refl _) _⟩
  have N4' : Hid (∀ w, Calls Tryd.prog 68 #[.string (s.extract 35 39)] w fun e w' => e = .returned (.int .u64 (Bm.num (Fm.cut (Bm.read s.data.toList) 35 4))) ∧ w' = w) := fun w => HN.out 35 39 w (by omega)
  have L4 := Fm.num_cut (Bm.read s.data.toList) 35 4
  have HE3 : Hid (res = Fm.parseD (Bm.read s.data.toList) true n r 39 (if r then 0 else min (Bm.num (Fm.cut (Bm.read s.data.toList) 35 4)) 8)) := by show _ = _; rw [HE.out]; unfold Fm.parseL; rw [if_neg (by omega)]
  clear HE HN N1' N2'
  generalize Bm.num (Fm.cut (Bm.read s.data.toList) 35 4) = m4 at *
  have hmin : min (m4 : Int) 8 = ((min m4 8 : Nat) : Int) := by omega
  have hm8 : min m4 8 ≤ 8 := by omega
  generalize min m4 8 = K at *
  go_wp2_with fail
  generalize (w1.setCell ⟨w.heap.size + 1, 1, none⟩ (.int .u32 n)).setCell ⟨w.heap.size + 1, 2, none⟩ (.bool r) = w4 at *
  clear x0 x1 x2 x3 v0 v1 v2 v3 y0 y1 y2 y3 z0 z1 z2 z3 HA1 HB1 hb1
  obtain ⟨x0, x1, x2, x3, v0, v1, v2, v3⟩ := four_cells HA4.out
  obtain ⟨y0, y1, y2, y3, z0, z1, z2, z3⟩ := four_cells HB4.out
  refine (N4'.out _).mono ?_
  rintro e w5 ⟨rfl, rfl⟩
  clear N4'
  cases r
  · rw [if_neg (by decide)] at HE3
    by_cases c7 : s.size < 39 + 8 * K
    · have HE2 : Hid (res = Fm.none_ 10) := by show _ = _; rw [HE3.out]; unfold Fm.parseD; rw [if_pos (by omega)]
      go_wp2
      exact bodyPost_ret (v := fv (Fm.none_ 10)) (by simp [results, Tryd.results56, go_sem, fv, Fm.none_, x0, x1, x2, x3]) rfl ⟨by rw [HE2.out], (((hb4.setCell (Nat.le_refl _) _).setCell (Nat.le_refl _) _).setCell (Nat.le_refl _) _).setCell (Nat.le_refl _) _⟩
    · have HE2 : Hid (res = ((true, n, false, Bm.bytes (Fm.cut (Bm.read s.data.toList) 39 (8 * K))), 39 + 8 * K, 0)) := by show _ = _; rw [HE3.out]; unfold Fm.parseD; rw [if_neg (by omega)]
      have HB : Hid (∀ w, Calls Tryd.prog 69 #[.string (s.extract 39 (39 + 8 * K))] w fun e w' => e = .returned (.string ⟨(Bm.bytes (Fm.cut (Bm.read s.data.toList) 39 (8 * K))).toArray⟩) ∧ Below w.heap.size w w') := fun w => refBytes_cut s 39 (8 * K) (by omega) hs w
      go_wp2_with fail
      refine (HB.out _).mono ?_
      rintro e w2 ⟨rfl, hb2⟩
      have HRa : Hid (_) := block_on (Array.getElem?_eq_some_iff.1 HA4.out).1 hb2 HA4.out
      have HRb : Hid (_) := block_on (Array.getElem?_eq_some_iff.1 HB4.out).1 hb2 HB4.out
      have hb3 := below_join hb4 hb2
      clear hb2 hb4 HA4 HB4 x0 x1 x2 x3 v0 v1 v2 v3 y0 y1 y2 y3 z0 z1 z2 z3
      obtain ⟨x0, x1, x2, x3, v0, v1, v2, v3⟩ := four_cells HRa.out
      obtain ⟨y0, y1, y2, y3, z0, z1, z2, z3⟩ := four_cells HRb.out
      go_wp2
      exact bodyPost_ret (v := fv ((true, n, false, Bm.bytes (Fm.cut (Bm.read s.data.toList) 39 (8 * K))), 39 + 8 * K, 0)) (by simp [results, Tryd.results56, go_sem, fv, x0, x1, x2, x3]) rfl ⟨by rw [HE2.out], ((((hb3.setCell (Nat.le_succ _) _).setCell (Nat.le_refl _) _).setCell (Nat.le_refl _) _).setCell (Nat.le_refl _) _).setCell (Nat.le_refl _) _⟩
  · rw [if_pos rfl] at HE3
    have HE2 : Hid (res = ((true, n, true, Bm.bytes (Fm.cut (Bm.read s.data.toList) 39 0)), 39 + 0, 0)) := by show _ = _; rw [HE3.out]; unfold Fm.parseD; rw [if_neg (by omega)]
    have HB : Hid (∀ w, Calls Tryd.prog 69 #[.string ByteArray.empty] w fun e w' => e = .returned (.string ⟨(Bm.bytes (Fm.cut (Bm.read s.data.toList) 39 0)).toArray⟩) ∧ Below w.heap.size w w') := fun w => refBytes_any ByteArray.empty w (by decide)
    go_wp2_with fail
    refine (HB.out _).mono ?_
    rintro e w2 ⟨rfl, hb2⟩
    have HRa : Hid (_) := block_on (Array.getElem?_eq_some_iff.1 HA4.out).1 hb2 HA4.out
    have HRb : Hid (_) := block_on (Array.getElem?_eq_some_iff.1 HB4.out).1 hb2 HB4.out
    have hb3 := below_join hb4 hb2
    clear hb2 hb4 HA4 HB4 x0 x1 x2 x3 v0 v1 v2 v3 y0 y1 y2 y3 z0 z1 z2 z3
    obtain ⟨x0, x1, x2, x3, v0, v1, v2, v3⟩ := four_cells HRa.out
    obtain ⟨y0, y1, y2, y3, z0, z1, z2, z3⟩ := four_cells HRb.out
    go_wp2
    exact bodyPost_ret (v := fv ((true, n, true, Bm.bytes (Fm.cut (Bm.read s.data.toList) 39 0)), 39 + 0, 0)) (by simp [results, Tryd.results56, go_sem, fv, x0, x1, x2, x3]) rfl ⟨by rw [HE2.out], ((((hb3.setCell (Nat.le_succ _) _).setCell (Nat.le_refl _) _).setCell (Nat.le_refl _) _).setCell (Nat.le_refl _) _).setCell (Nat.le_refl _) _⟩
end Go.Proofs.YtaphdehhnnglgaaDoor
