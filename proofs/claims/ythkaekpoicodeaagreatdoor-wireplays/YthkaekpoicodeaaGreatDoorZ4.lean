/- What Decode of package code answers, over the program's own text. -/
import Derived.Test.YthkaekpoicodeaaGreatDoorU4
import Derived.Test.YthkaekpoicodeaaGreatDoorYd
namespace Go.Proofs.YthkaekpoicodeaaGreatDoor
open Go.RowKit
theorem rlaid_len (row : List Bool) (h : (Cm.rlaid row).2.2 = 0) : (Cm.rlaid row).1.2.2 ≤ row.length := by
  have hr := unB_range row (0, false) [] 0
  have hr2 : (Sm.unstuff row).2 < ((0 : Nat) : Int) + row.length := hr.2
  rcases hu : Sm.unstuff row with ⟨U, z⟩
  rcases hp : Fm.parse U with ⟨f, nn, e⟩
  rw [hu] at hr2
  simp only at hr2
  rw [rlaid_eq row U z f nn e hu hp] at h ⊢
  split at h
  · cases h
  · rename_i h1
    rw [if_neg h1]
    split at h
    · rename_i h2
      rw [if_pos h2]
      simp only
      obtain ⟨_, _, h3⟩ := h2
      omega
    · split at h <;> cases h
theorem ldec_eq (row : List Bool) (f : Cm.Fr) (rt : Bool) (lg p e q c : Nat) (h : Cm.rlaid row = ((f, rt, lg), p, e)) (h2 : Cm.endsB row rt 10 0 lg = (q, c)) : Cm.ldec row = if e = 0 then (if c = 0 then (f, q, 0) else (Cm.noF, q, c)) else (Cm.noF, p, e) := by
  unfold Cm.ldec
  simp only [h, h2]
set_option linter.unusedVariables false in
set_option maxRecDepth 100000 in
set_option maxHeartbeats 4000000 in
theorem dec_bad (s F : ByteArray) (x : Bool) (n : Nat) (r : Bool) (D : ByteArray) (rt : Bool) (lg p : Nat) (e0 : Nat) (he : ((e0 : Int) == 0) = false) (he2 : ((e0 : Int) != 0) = true) (w : World) (hT : Tab w)
    (HF : Hid (∀ w, Calls Tryz.prog 110 #[.string s] w fun e w' => e = .returned (.string F) ∧ w' = w))
    (HL : Hid (∀ w, Tab w → Calls Tryz.prog 111 #[.string F] w fun e w' => e = .returned (.tuple #[.agg #[.bool x, .int .u32 n, .bool r, .string D, .bool rt, .int .i64 lg], .int .i64 p, .int .i64 e0]) ∧ Below w.heap.size w w')) :
    Calls Tryz.prog 91 #[.string s] w fun e w' => e = .returned (.tuple #[.agg #[.bool false, .int .u32 0, .bool false, .string ⟨#[]⟩], .int .i64 p, .int .i64 e0]) ∧ Below w.heap.size w w' := by
  have hT1 : Hid (Tab _) := hT.alloc (.cells #[.bool false, .int .u32 0, .bool false, .string ⟨#[]⟩] 35)
  clear hT
  go_enter Tryz.func91, Tryz.ntmps91
  go_wp2_with fail
  refine (HF.out _).mono ?_
  rintro e w1 ⟨rfl, rfl⟩
  go_wp2_with fail
  refine (HL.out _ hT1.out).mono ?_
  rintro e w2 ⟨rfl, hb2⟩
  have HV2 : Hid (w2.heap[w.heap.size]? = some (.cells #[.bool false, .int .u32 0, .bool false, .string ⟨#[]⟩] 35 (0, 0))) := (hb2.block w.heap.size (by simp)).trans (heap_alloc_new _ _)
  have hb3 : Hid (Below w.heap.size w w2) := below_join ((Below.refl _ _).alloc (Nat.le_refl _) _) hb2
  have hlt2 : w.heap.size < w2.heap.size := (Array.getElem?_eq_some_iff.1 HV2.out).1
  clear hb2 hT1 HF HL
  have HA := fun o => four_cells ((Below.heap_alloc w2 o _ hlt2).trans HV2.out)
  have y0 := fun o => (HA o).1
  have y1 := fun o => (HA o).2.1
  have y2 := fun o => (HA o).2.2.1
  have y3 := fun o => (HA o).2.2.2.1
  have q0 := fun o => (HA o).2.2.2.2.1
  have q1 := fun o => (HA o).2.2.2.2.2.1
  have q2 := fun o => (HA o).2.2.2.2.2.2.1
  have q3 := fun o => (HA o).2.2.2.2.2.2.2
  have hb5 : Hid (Below w.heap.size w (w2.alloc (.cells #[.bool x, .int .u32 n, .bool r, .string D, .bool rt, .int .i64 lg] 138))) := hb3.out.alloc hb3.out.size _
  clear HA hlt2
  go_wp2
  exact bodyPost_ret (v := .tuple #[.agg #[.bool false, .int .u32 0, .bool false, .string ⟨#[]⟩], .int .i64 p, .int .i64 e0]) (by simp [results, Tryz.results91, go_sem, y0, y1, y2, y3]) rfl ⟨rfl, (((hb5.out.setCell (Nat.le_refl _) _).setCell (Nat.le_refl _) _).setCell (Nat.le_refl _) _).setCell (Nat.le_refl _) _⟩
set_option linter.unusedVariables false in
set_option maxRecDepth 100000 in
set_option maxHeartbeats 4000000 in
theorem dec_laid (s F : ByteArray) (x : Bool) (n : Nat) (r : Bool) (D : ByteArray) (rt : Bool) (lg p : Nat) (q c : Nat) (w : World) (hT : Tab w)
    (HF : Hid (∀ w, Calls Tryz.prog 110 #[.string s] w fun e w' => e = .returned (.string F) ∧ w' = w))
    (HL : Hid (∀ w, Tab w → Calls Tryz.prog 111 #[.string F] w fun e w' => e = .returned (.tuple #[.agg #[.bool x, .int .u32 n, .bool r, .string D, .bool rt, .int .i64 lg], .int .i64 p, .int .i64 0]) ∧ Below w.heap.size w w'))
    (HE : Hid (∀ w, Calls Tryz.prog 112 #[.string F, .agg #[.bool x, .int .u32 n, .bool r, .string D, .bool rt, .int .i64 lg]] w fun e w' => e = .returned (.tuple #[.int .i64 (q : Int), .int .i64 (c : Int)]) ∧ Below w.heap.size w w')) :
    Calls Tryz.prog 91 #[.string s] w fun e w' => e = .returned (if c = 0 then .tuple #[.agg #[.bool x, .int .u32 n, .bool r, .string D], .int .i64 q, .int .i64 0] else .tuple #[.agg #[.bool false, .int .u32 0, .bool false, .string ⟨#[]⟩], .int .i64 q, .int .i64 c]) ∧ Below w.heap.size w w' := by
  have hT1 : Hid (Tab _) := hT.alloc (.cells #[.bool false, .int .u32 0, .bool false, .string ⟨#[]⟩] 35)
  clear hT
  obtain ⟨res, HR⟩ : ∃ res, Hid (res = if c = 0 then Value.tuple #[.agg #[.bool x, .int .u32 n, .bool r, .string D], .int .i64 q, .int .i64 0] else .tuple #[.agg #[.bool false, .int .u32 0, .bool false, .string ⟨#[]⟩], .int .i64 q, .int .i64 c]) := ⟨_, rfl⟩
  rw [← HR.out]
  go_enter Tryz.func91, Tryz.ntmps91
  go_wp2_with fail
  refine (HF.out _).mono ?_
  rintro e w1 ⟨rfl, rfl⟩
  go_wp2_with fail
  refine (HL.out _ hT1.out).mono ?_
  rintro e w2 ⟨rfl, hb2⟩
  have HV2 : Hid (w2.heap[w.heap.size]? = some (.cells #[.bool false, .int .u32 0, .bool false, .string ⟨#[]⟩] 35 (0, 0))) := (hb2.block w.heap.size (by simp)).trans (heap_alloc_new _ _)
  have hb3 : Hid (Below w.heap.size w w2) := below_join ((Below.refl _ _).alloc (Nat.le_refl _) _) hb2
  have hlt2 : w.heap.size < w2.heap.size := (Array.getElem?_eq_some_iff.1 HV2.out).1
  clear hb2 hT1 HF HL
  go_wp2_with fail
  refine (HE.out _).mono ?_
  rintro e w3 ⟨rfl, hb4⟩
  have HV3 : Hid (w3.heap[w.heap.size]? = some (.cells #[.bool false, .int .u32 0, .bool false, .string ⟨#[]⟩] 35 (0, 0))) := block_on (by simp; omega) hb4 ((Below.heap_alloc w2 _ _ hlt2).trans HV2.out)
  have HL3 : Hid (w3.heap[w2.heap.size]? = some (.cells #[.bool x, .int .u32 n, .bool r, .string D, .bool rt, .int .i64 lg] 138 (0, 0))) := block_on (by simp) hb4 (heap_alloc_new _ _)
  have hb5 : Hid (Below w.heap.size w w3) := below_join (hb3.out.alloc hb3.out.size _) hb4
  clear hb4 hb3 HE HV2
  obtain ⟨y0, y1, y2, y3, z0, z1, z2, z3⟩ := four_cells HV3.out
  obtain ⟨f0, f1, f2, f3, f4, f5⟩ := six_cells HL3.out
  have hlt3 : w2.heap.size < w3.heap.size := (Array.getElem?_eq_some_iff.1 HL3.out).1
  by_cases c0 : c = 0
  · subst c0
    rw [if_pos rfl] at HR
    go_wp2
    exact bodyPost_ret (v := .tuple #[.agg #[.bool x, .int .u32 n, .bool r, .string D], .int .i64 q, .int .i64 0]) (by simp [results, Tryz.results91, go_sem, y0, y1, y2, y3]) rfl ⟨by rw [HR.out], (((hb5.out.setCell (Nat.le_refl _) _).setCell (Nat.le_refl _) _).setCell (Nat.le_refl _) _).setCell (Nat.le_refl _) _⟩
  · have he : ((c : Int) != 0) = true := by rw [bne, beq_eq_false_iff_ne.2 (by omega)]; rfl
    rw [if_neg c0] at HR
    clear c0
    go_wp2
    exact bodyPost_ret (v := .tuple #[.agg #[.bool false, .int .u32 0, .bool false, .string ⟨#[]⟩], .int .i64 q, .int .i64 c]) (by simp [results, Tryz.results91, go_sem, y0, y1, y2, y3]) rfl ⟨by rw [HR.out], (((hb5.out.setCell (Nat.le_refl _) _).setCell (Nat.le_refl _) _).setCell (Nat.le_refl _) _).setCell (Nat.le_refl _) _⟩
theorem cDec_any (s : ByteArray) (w : World) (hT : Tab w) (hs : s.size ≤ 1000000) :
    Calls Tryz.prog 91 #[.string s] w fun e w' => e = .returned (cfv (Cm.dec (Bm.read s.data.toList))) ∧ Below w.heap.size w w' := by
  have hlen : (Bm.read s.data.toList).length = s.size := by rw [Bm.length_read]; simp
  have hF : Bm.read (s.extract 0 (min s.size 157)).data.toList = (Bm.read s.data.toList).take 157 := by
    rw [read_front]
    by_cases h : s.size ≤ 157
    · rw [Nat.min_eq_left h, List.take_of_length_le (by omega), List.take_of_length_le (by omega)]
    · rw [Nat.min_eq_right (by omega)]
  have hFs : (s.extract 0 (min s.size 157)).size ≤ 157 := by simp; omega
  rw [Cm.dec_front, ← hF]
  have HF : Hid (∀ w, Calls Tryz.prog 110 #[.string s] w fun e w' => e = .returned (.string (s.extract 0 (min s.size 157))) ∧ w' = w) := fun w => front_any s (by omega) w
  clear hF
  generalize s.extract 0 (min s.size 157) = F at *
  have HL : Hid (∀ w, Tab w → Calls Tryz.prog 111 #[.string F] w fun e w' => e = .returned (lpv (Cm.rlaid (Bm.read F.data.toList))) ∧ Below w.heap.size w w') := fun w hT => readLaid_any F (by omega) w hT
  have hln := rlaid_len (Bm.read F.data.toList)
  have hFl : (Bm.read F.data.toList).length = F.size := by rw [Bm.length_read]; simp
  rcases hr : Cm.rlaid (Bm.read F.data.toList) with ⟨⟨⟨x, n, r, d⟩, rt, lg⟩, p, e0⟩
  rcases hq : Cm.endsB (Bm.read F.data.toList) rt 10 0 lg with ⟨q, c⟩
  have hd := ldec_eq _ _ _ _ _ _ _ _ hr hq
  rw [hr] at HL hln
  rw [hFl] at hln
  unfold lpv at HL
  simp only at HL hln
  rw [hd]
  by_cases e00 : e0 = 0
  · subst e00
    have HE : Hid (∀ w, Calls Tryz.prog 112 #[.string F, .agg #[.bool x, .int .u32 n, .bool r, .string ⟨d.toArray⟩, .bool rt, .int .i64 lg]] w fun e w' => e = .returned (.tuple #[.int .i64 (q : Int), .int .i64 (c : Int)]) ∧ Below w.heap.size w w') := fun w => by
      have h := readEnds_any F (by omega) x n r ⟨d.toArray⟩ rt lg (hln rfl) w
      rw [hq] at h
      exact h
    refine calls_eq ?_ (dec_laid s F x n r ⟨d.toArray⟩ rt lg p q c w hT HF HL HE)
    rw [if_pos rfl]
    split <;> rfl
  · rw [if_neg e00]
    exact dec_bad s F x n r ⟨d.toArray⟩ rt lg p e0 (by rw [beq_eq_false_iff_ne]; omega) (by rw [bne, beq_eq_false_iff_ne.2 (by omega)]; rfl) w hT HF HL
end Go.Proofs.YthkaekpoicodeaaGreatDoor
