/- What the document's own Parse of frames answers, over its text: the whole. -/
import Derived.Test.YtaphdehhnnglgaaDoorT6
namespace Go.Proofs.YtaphdehhnnglgaaDoor
open Go.RowKit
set_option maxRecDepth 100000 in
set_option maxHeartbeats 8000000 in
theorem refFParse_any (s : ByteArray) (w : World) (hs : s.size ≤ 1048576) :
    Calls Tryd.prog 56 #[.string s] w fun e w' => e = .returned (fv (Fm.parse (Bm.read s.data.toList))) ∧ Below w.heap.size w w' := by
  have hlen : (Bm.read s.data.toList).length = s.size := by rw [Bm.length_read]; simp
  have HN : Hid (∀ i j w, j ≤ s.size → Calls Tryd.prog 68 #[.string (s.extract i j)] w fun e w' => e = .returned (.int .u64 (Bm.num (Fm.cut (Bm.read s.data.toList) i (j - i)))) ∧ w' = w) := fun i j w h => refNum_cut s i j h hs w
  have H1 : Hid (∀ k (h : k < s.size), ((s[k].toNat : Int) == 49) = (Bm.read s.data.toList).getD k false) := fun k h => Fm.one_dec s k h
  have HP : Hid (Fm.parse (Bm.read s.data.toList) = if s.size < 1 then Fm.none_ 10 else if (Bm.read s.data.toList).getD 0 false then Fm.none_ 12 else if s.size < 14 then Fm.none_ 10 else
  if (Bm.read s.data.toList).getD 13 false then (if (Bm.read s.data.toList).getD 12 false then (if s.size < 33 then Fm.none_ 10 else Fm.parseL (Bm.read s.data.toList) true (Bm.num (Fm.cut (Bm.read s.data.toList) 1 11) * 262144 + Bm.num (Fm.cut (Bm.read s.data.toList) 14 18)) ((Bm.read s.data.toList).getD 32 false) 35) else Fm.none_ 12)
  else Fm.parseL (Bm.read s.data.toList) false (Bm.num (Fm.cut (Bm.read s.data.toList) 1 11)) ((Bm.read s.data.toList).getD 12 false) 15) := by
    rw [← hlen]
    rfl
  have HX : Hid (¬ s.size < 33 → (Bm.read s.data.toList).getD 0 false = false → (Bm.read s.data.toList).getD 13 false = true → (Bm.read s.data.toList).getD 12 false = true → Calls Tryd.prog 56 #[.string s] w fun e w' => e = .returned (fv (Fm.parse (Bm.read s.data.toList))) ∧ Below w.heap.size w w') := fun a b c d => refFParse_ext s w hs a b c d
  generalize Fm.parse (Bm.read s.data.toList) = res at *
  by_cases c1 : s.size < 1
  · have HE : Hid (res = Fm.none_ 10) := by show _ = _; rw [HP.out, if_pos c1]
    clear HN H1 HP
    go_enter Tryd.func56, Tryd.ntmps56
    go_wp2
    exact bodyPost_ret (v := fv (Fm.none_ 10)) (by simp [results, Tryd.results56, go_sem, fv, Fm.none_]) rfl ⟨by rw [HE.out], (Below.refl _ _).alloc (Nat.le_refl _) _⟩
  have h0 := H1.out 0 (by omega)
  cases q0 : (Bm.read s.data.toList).getD 0 false
  · rw [q0] at h0
    by_cases c2 : s.size < 14
    · have HE : Hid (res = Fm.none_ 10) := by show _ = _; rw [HP.out, if_neg c1, q0, if_neg (by decide), if_pos c2]
      clear HN H1 HP
      go_enter Tryd.func56, Tryd.ntmps56
      go_wp2
      exact bodyPost_ret (v := fv (Fm.none_ 10)) (by simp [results, Tryd.results56, go_sem, fv, Fm.none_]) rfl ⟨by rw [HE.out], (Below.refl _ _).alloc (Nat.le_refl _) _⟩
    have h13 := H1.out 13 (by omega)
    have h12 := H1.out 12 (by omega)
    have N1 := HN.out 1 12
    have L1 := Fm.num_cut (Bm.read s.data.toList) 1 11
    cases q13 : (Bm.read s.data.toList).getD 13 false
    · rw [q13] at h13
      obtain ⟨r, hr⟩ : ∃ r, (Bm.read s.data.toList).getD 12 false = r := ⟨_, rfl⟩
      rw [hr] at h12
      have HE : Hid (res = Fm.parseL (Bm.read s.data.toList) false (Bm.num (Fm.cut (Bm.read s.data.toList) 1 11)) r 15) := by show _ = _; rw [HP.out, if_neg c1, q0, if_neg (by decide), if_neg c2, q13, if_neg (by decide), hr]
      have N1' : Hid (∀ w, Calls Tryd.prog 68 #[.string (s.extract 1 12)] w fun e w' => e = .returned (.int .u64 (Bm.num (Fm.cut (Bm.read s.data.toList) 1 11))) ∧ w' = w) := fun w => N1 w (by omega)
      clear N1 HP
      generalize Bm.num (Fm.cut (Bm.read s.data.toList) 1 11) = n at *
      by_cases c3 : s.size < 19
      · have HE2 : Hid (res = Fm.none_ 10) := by show _ = _; rw [HE.out]; unfold Fm.parseL; rw [if_pos (by omega)]
        go_enter Tryd.func56, Tryd.ntmps56
        go_wp2_with fail
        refine (N1'.out _).mono ?_
        rintro e w1 ⟨rfl, rfl⟩
        go_wp2
        exact bodyPost_ret (v := fv (Fm.none_ 10)) (by simp [results, Tryd.results56, go_sem, fv, Fm.none_]) rfl ⟨by rw [HE2.out], ((Below.refl _ _).alloc (Nat.le_refl _) _).alloc (by simp) _⟩
      have N4 := HN.out 15 19
      have N4' : Hid (∀ w, Calls Tryd.prog 68 #[.string (s.extract 15 19)] w fun e w' => e = .returned (.int .u64 (Bm.num (Fm.cut (Bm.read s.data.toList) 15 4))) ∧ w' = w) := fun w => N4 w (by omega)
      have L4 := Fm.num_cut (Bm.read s.data.toList) 15 4
      clear N4
      have HE3 : Hid (res = Fm.parseD (Bm.read s.data.toList) false n r 19 (if r then 0 else min (Bm.num (Fm.cut (Bm.read s.data.toList) 15 4)) 8)) := by show _ = _; rw [HE.out]; unfold Fm.parseL; rw [if_neg (by omega)]
      clear HE HN H1
      generalize Bm.num (Fm.cut (Bm.read s.data.toList) 15 4) = m4 at *
      have hmin : min (m4 : Int) 8 = ((min m4 8 : Nat) : Int) := by omega
      have hm8 : min m4 8 ≤ 8 := by omega
      generalize min m4 8 = K at *
      cases r
      · rw [if_neg (by decide)] at HE3
        by_cases c4 : s.size < 19 + 8 * K
        · have HE2 : Hid (res = Fm.none_ 10) := by show _ = _; rw [HE3.out]; unfold Fm.parseD; rw [if_pos (by omega)]
          go_enter Tryd.func56, Tryd.ntmps56
          go_wp2_with fail
          refine (N1'.out _).mono ?_
          rintro e w1 ⟨rfl, rfl⟩
          go_wp2_with fail
          refine (N4'.out _).mono ?_
          rintro e w1 ⟨rfl, rfl⟩
          go_wp2
          exact bodyPost_ret (v := fv (Fm.none_ 10)) (by simp [results, Tryd.results56, go_sem, fv, Fm.none_]) rfl ⟨by rw [HE2.out], ((Below.refl _ _).alloc (Nat.le_refl _) _).alloc (by simp) _⟩
        · have HE2 : Hid (res = ((false, n, false, Bm.bytes (Fm.cut (Bm.read s.data.toList) 19 (8 * K))), 19 + 8 * K, 0)) := by show _ = _; rw [HE3.out]; unfold Fm.parseD; rw [if_neg (by omega)]
          have HB : Hid (∀ w, Calls Tryd.prog 69 #[.string (s.extract 19 (19 + 8 * K))] w fun e w' => e = .returned (.string ⟨(Bm.bytes (Fm.cut (Bm.read s.data.toList) 19 (8 * K))).toArray⟩) ∧ Below w.heap.size w w') := fun w => refBytes_cut s 19 (8 * K) (by omega) hs w
          go_enter Tryd.func56, Tryd.ntmps56
          go_wp2_with fail
          refine (N1'.out _).mono ?_
          rintro e w1 ⟨rfl, rfl⟩
          go_wp2_with fail
          refine (N4'.out _).mono ?_
          rintro e w1 ⟨rfl, rfl⟩
          go_wp2_with fail
          refine (HB.out _).mono ?_
          rintro e w2 ⟨rfl, hb2⟩
          have HRa : Hid (w2.heap[w.heap.size]? = some (.cells #[.bool false, .int .u32 0, .bool false, .string ⟨#[]⟩] 24 (0, 0))) := (hb2.block w.heap.size (by simp; omega)).trans (heap_alloc2_old _ _ _)
          have HRb : Hid (w2.heap[w.heap.size + 1]? = some (.cells #[.bool false, .int .u32 n, .bool false, .string ⟨#[]⟩] 24 (0, 0))) := (hb2.block (w.heap.size + 1) (by simp)).trans (heap_alloc2_new _ _ _)
          have hb3 := below_join (((Below.refl _ _).alloc (Nat.le_refl _) _).alloc (by simp) _) hb2
          clear hb2
          have z3 := frozen_of_row _ _ 3 _ _ HRb.out
          have y0 : w2.cell? ⟨w.heap.size + 1, 0, none⟩ = some (.bool false) := by rw [cell_of_row _ _ _ _ _ _ HRb.out]; rfl
          have y1 : w2.cell? ⟨w.heap.size + 1, 1, none⟩ = some (.int .u32 n) := by rw [cell_of_row _ _ _ _ _ _ HRb.out]; rfl
          have y2 : w2.cell? ⟨w.heap.size + 1, 2, none⟩ = some (.bool false) := by rw [cell_of_row _ _ _ _ _ _ HRb.out]; rfl
          have y3 : w2.cell? ⟨w.heap.size + 1, 3, none⟩ = some (.string ⟨#[]⟩) := by rw [cell_of_row _ _ _ _ _ _ HRb.out]; rfl
          have x0 : w2.cell? ⟨w.heap.size, 0, none⟩ = some (.bool false) := by rw [cell_of_row _ _ _ _ _ _ HRa.out]; rfl
          have x1 : w2.cell? ⟨w.heap.size, 1, none⟩ = some (.int .u32 0) := by rw [cell_of_row _ _ _ _ _ _ HRa.out]; rfl
          have x2 : w2.cell? ⟨w.heap.size, 2, none⟩ = some (.bool false) := by rw [cell_of_row _ _ _ _ _ _ HRa.out]; rfl
          have x3 : w2.cell? ⟨w.heap.size, 3, none⟩ = some (.string ⟨#[]⟩) := by rw [cell_of_row _ _ _ _ _ _ HRa.out]; rfl
          have v0 := frozen_of_row _ _ 0 _ _ HRa.out
          have v1 := frozen_of_row _ _ 1 _ _ HRa.out
          have v2 := frozen_of_row _ _ 2 _ _ HRa.out
          have v3 := frozen_of_row _ _ 3 _ _ HRa.out
          go_wp2
          exact bodyPost_ret (v := fv ((false, n, false, Bm.bytes (Fm.cut (Bm.read s.data.toList) 19 (8 * K))), 19 + 8 * K, 0)) (by simp [results, Tryd.results56, go_sem, fv, x0, x1, x2, x3]) rfl ⟨by rw [HE2.out], ((((hb3.setCell (Nat.le_succ _) _).setCell (Nat.le_refl _) _).setCell (Nat.le_refl _) _).setCell (Nat.le_refl _) _).setCell (Nat.le_refl _) _⟩
      · rw [if_pos rfl] at HE3
        have HE2 : Hid (res = ((false, n, true, Bm.bytes (Fm.cut (Bm.read s.data.toList) 19 0)), 19 + 0, 0)) := by show _ = _; rw [HE3.out]; unfold Fm.parseD; rw [if_neg (by omega)]
        have HB : Hid (∀ w, Calls Tryd.prog 69 #[.string ByteArray.empty] w fun e w' => e = .returned (.string ⟨(Bm.bytes (Fm.cut (Bm.read s.data.toList) 19 0)).toArray⟩) ∧ Below w.heap.size w w') := fun w => refBytes_any ByteArray.empty w (by decide)
        go_enter Tryd.func56, Tryd.ntmps56
        go_wp2_with fail
        refine (N1'.out _).mono ?_
        rintro e w1 ⟨rfl, rfl⟩
        go_wp2_with fail
        refine (N4'.out _).mono ?_
        rintro e w1 ⟨rfl, rfl⟩
        go_wp2_with fail
        refine (HB.out _).mono ?_
        rintro e w2 ⟨rfl, hb2⟩
        have HRa : Hid (w2.heap[w.heap.size]? = some (.cells #[.bool false, .int .u32 0, .bool false, .string ⟨#[]⟩] 24 (0, 0))) := (hb2.block w.heap.size (by simp; omega)).trans (heap_alloc2_old _ _ _)
        have HRb : Hid (w2.heap[w.heap.size + 1]? = some (.cells #[.bool false, .int .u32 n, .bool true, .string ⟨#[]⟩] 24 (0, 0))) := (hb2.block (w.heap.size + 1) (by simp)).trans (heap_alloc2_new _ _ _)
        have hb3 := below_join (((Below.refl _ _).alloc (Nat.le_refl _) _).alloc (by simp) _) hb2
        clear hb2
        have z3 := frozen_of_row _ _ 3 _ _ HRb.out
        have y0 : w2.cell? ⟨w.heap.size + 1, 0, none⟩ = some (.bool false) := by rw [cell_of_row _ _ _ _ _ _ HRb.out]; rfl
        have y1 : w2.cell? ⟨w.heap.size + 1, 1, none⟩ = some (.int .u32 n) := by rw [cell_of_row _ _ _ _ _ _ HRb.out]; rfl
        have y2 : w2.cell? ⟨w.heap.size + 1, 2, none⟩ = some (.bool true) := by rw [cell_of_row _ _ _ _ _ _ HRb.out]; rfl
        have y3 : w2.cell? ⟨w.heap.size + 1, 3, none⟩ = some (.string ⟨#[]⟩) := by rw [cell_of_row _ _ _ _ _ _ HRb.out]; rfl
        have x0 : w2.cell? ⟨w.heap.size, 0, none⟩ = some (.bool false) := by rw [cell_of_row _ _ _ _ _ _ HRa.out]; rfl
        have x1 : w2.cell? ⟨w.heap.size, 1, none⟩ = some (.int .u32 0) := by rw [cell_of_row _ _ _ _ _ _ HRa.out]; rfl
        have x2 : w2.cell? ⟨w.heap.size, 2, none⟩ = some (.bool false) := by rw [cell_of_row _ _ _ _ _ _ HRa.out]; rfl
        have x3 : w2.cell? ⟨w.heap.size, 3, none⟩ = some (.string ⟨#[]⟩) := by rw [cell_of_row _ _ _ _ _ _ HRa.out]; rfl
        have v0 := frozen_of_row _ _ 0 _ _ HRa.out
        have v1 := frozen_of_row _ _ 1 _ _ HRa.out
        have v2 := frozen_of_row _ _ 2 _ _ HRa.out
        have v3 := frozen_of_row _ _ 3 _ _ HRa.out
        go_wp2
        exact bodyPost_ret (v := fv ((false, n, true, Bm.bytes (Fm.cut (Bm.read s.data.toList) 19 (0))), 19 + 0, 0)) (by simp [results, Tryd.results56, go_sem, fv, x0, x1, x2, x3]) rfl ⟨by rw [HE2.out], ((((hb3.setCell (Nat.le_succ _) _).setCell (Nat.le_refl _) _).setCell (Nat.le_refl _) _).setCell (Nat.le_refl _) _).setCell (Nat.le_refl _) _⟩
    · rw [q13] at h13
      cases q12 : (Bm.read s.data.toList).getD 12 false
      · rw [q12] at h12
        have HE : Hid (res = Fm.none_ 12) := by show _ = _; rw [HP.out, if_neg c1, q0, if_neg (by decide), if_neg c2, q13, if_pos rfl, q12, if_neg (by decide)]
        have N1' : Hid (∀ w, Calls Tryd.prog 68 #[.string (s.extract 1 12)] w fun e w' => e = .returned (.int .u64 (Bm.num (Fm.cut (Bm.read s.data.toList) 1 11))) ∧ w' = w) := fun w => N1 w (by omega)
        clear N1 HP HN H1
        generalize Bm.num (Fm.cut (Bm.read s.data.toList) 1 11) = n1 at *
        go_enter Tryd.func56, Tryd.ntmps56
        go_wp2_with fail
        refine (N1'.out _).mono ?_
        rintro e w1 ⟨rfl, rfl⟩
        go_wp2
        exact bodyPost_ret (v := fv (Fm.none_ 12)) (by simp [results, Tryd.results56, go_sem, fv, Fm.none_]) rfl ⟨by rw [HE.out], ((Below.refl _ _).alloc (Nat.le_refl _) _).alloc (by simp) _⟩
      · rw [q12] at h12
        by_cases c5 : s.size < 33
        · have HE : Hid (res = Fm.none_ 10) := by show _ = _; rw [HP.out, if_neg c1, q0, if_neg (by decide), if_neg c2, q13, if_pos rfl, q12, if_pos rfl, if_pos c5]
          have N1' : Hid (∀ w, Calls Tryd.prog 68 #[.string (s.extract 1 12)] w fun e w' => e = .returned (.int .u64 (Bm.num (Fm.cut (Bm.read s.data.toList) 1 11))) ∧ w' = w) := fun w => N1 w (by omega)
          clear N1 HP HN H1
          generalize Bm.num (Fm.cut (Bm.read s.data.toList) 1 11) = n1 at *
          go_enter Tryd.func56, Tryd.ntmps56
          go_wp2_with fail
          refine (N1'.out _).mono ?_
          rintro e w1 ⟨rfl, rfl⟩
          go_wp2
          exact bodyPost_ret (v := fv (Fm.none_ 10)) (by simp [results, Tryd.results56, go_sem, fv, Fm.none_]) rfl ⟨by rw [HE.out], ((Below.refl _ _).alloc (Nat.le_refl _) _).alloc (by simp) _⟩
        exact HX.out c5 q0 q13 q12
  · have HE : Hid (res = Fm.none_ 12) := by show _ = _; rw [HP.out, if_neg c1, q0, if_pos rfl]
    rw [q0] at h0
    clear HN H1 HP
    go_enter Tryd.func56, Tryd.ntmps56
    go_wp2
    exact bodyPost_ret (v := fv (Fm.none_ 12)) (by simp [results, Tryd.results56, go_sem, fv, Fm.none_]) rfl ⟨by rw [HE.out], (Below.refl _ _).alloc (Nat.le_refl _) _⟩
end Go.Proofs.YtaphdehhnnglgaaDoor
