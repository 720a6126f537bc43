/- What the document's own Cmp of frames answers, over its text. -/
import Derived.Test.YtoohmpkhljfpbaaDoorU8
import Derived.Test.YtoohmpkhljfpbaaDoorU2
namespace Go.Proofs.YtoohmpkhljfpbaaDoor
open Go.RowKit
theorem row_lenT (bs : List Bool) : (ByteArray.mk (Bm.row bs).toArray).size = bs.length := by rw [size_str, Bm.length_row]
theorem row_atT (bs : List Bool) (k : Nat) (h : k < (ByteArray.mk (Bm.row bs).toArray).size) (h2 : k < bs.length) : (ByteArray.mk (Bm.row bs).toArray)[k] = Bm.sign bs[k] := by
  show (Bm.row bs).toArray[k]'(by simpa [Bm.length_row] using h2) = _
  simp [Bm.row]
theorem cmp_step (X Y : List Bool) (k : Nat) (hx : k < X.length) (hy : k < Y.length) : Fm.cmpB (X.drop k) (Y.drop k) = if X[k] = Y[k] then Fm.cmpB (X.drop (k + 1)) (Y.drop (k + 1)) else if X[k] then 1 else -1 := by
  rw [List.drop_eq_getElem_cons hx, List.drop_eq_getElem_cons hy]
  rfl
theorem cmp_end (X Y : List Bool) (k : Nat) (h : X.length ≤ k ∨ Y.length ≤ k) : Fm.cmpB (X.drop k) (Y.drop k) = 0 := by
  rcases h with h | h
  · rw [List.drop_of_length_le h]; rfl
  · rw [List.drop_of_length_le h]; cases X.drop k <;> rfl
theorem sign_ne (a b : Bool) : (((Bm.sign a).toNat : Int) != ((Bm.sign b).toNat : Int)) = (a != b) := by cases a <;> cases b <;> decide
theorem sign_0 (a : Bool) : (((Bm.sign a).toNat : Int) == 48) = !a := by cases a <;> decide
theorem arb_len (x : Bool) (n : Nat) (r : Bool) (d : List UInt8) : (Fm.arb x n r d).length ≤ 33 := by
  unfold Fm.arb
  split
  · rw [Fm.length_arb0]; split <;> omega
  · simp
set_option maxRecDepth 100000 in
set_option maxHeartbeats 1000000 in
theorem refFCmp_any (x : Bool) (n : Nat) (r : Bool) (d : ByteArray) (y : Bool) (m : Nat) (s : Bool) (g : ByteArray) (w : World) (hn : n < 4294967296) (hm : m < 4294967296) :
    Calls Tryd.prog 10 #[.agg #[.bool x, .int .u32 n, .bool r, .string d], .agg #[.bool y, .int .u32 m, .bool s, .string g]] w fun f w' => f = .returned (.int .i64 (Fm.cmpB (Fm.arb x n r d.data.toList) (Fm.arb y m s g.data.toList))) ∧ Below w.heap.size w w' := by
  have H1 : Hid (∀ w, Calls Tryd.prog 23 #[.agg #[.bool x, .int .u32 n, .bool r, .string d]] w fun e w' => e = .returned (.string ⟨(Bm.row (Fm.arb x n r d.data.toList)).toArray⟩) ∧ Below w.heap.size w w') := fun w => refFArb_any x n r d w hn
  have H2 : Hid (∀ w, Calls Tryd.prog 23 #[.agg #[.bool y, .int .u32 m, .bool s, .string g]] w fun e w' => e = .returned (.string ⟨(Bm.row (Fm.arb y m s g.data.toList)).toArray⟩) ∧ Below w.heap.size w w') := fun w => refFArb_any y m s g w hm
  have hX := arb_len x n r d.data.toList
  have hY := arb_len y m s g.data.toList
  generalize Fm.arb x n r d.data.toList = X at *
  generalize Fm.arb y m s g.data.toList = Y at *
  have hs1 := row_lenT X
  have hs2 := row_lenT Y
  obtain ⟨t, ht⟩ : ∃ t, t = ByteArray.mk (Bm.row X).toArray := ⟨_, rfl⟩
  obtain ⟨u, hu⟩ : ∃ u, u = ByteArray.mk (Bm.row Y).toArray := ⟨_, rfl⟩
  have At : Hid (∀ k (h : k < t.size) (h2 : k < X.length), t[k] = Bm.sign X[k]) := by subst ht; exact fun k h h2 => row_atT X k h h2
  have Au : Hid (∀ k (h : k < u.size) (h2 : k < Y.length), u[k] = Bm.sign Y[k]) := by subst hu; exact fun k h h2 => row_atT Y k h h2
  rw [← ht] at H1 hs1
  rw [← hu] at H2 hs2
  clear ht hu
  go_enter Tryd.func10, Tryd.ntmps10
  have hc00 : ((w.alloc (.cells #[.bool x, .int .u32 n, .bool r, .string d] 26)).alloc (.cells #[.bool y, .int .u32 m, .bool s, .string g] 26)).cell? ⟨w.heap.size, 0, none⟩ = some (.bool x) := by rw [cell_of_row _ _ _ _ _ _ (heap_alloc2_old _ _ _)]; rfl
  have hc01 : ((w.alloc (.cells #[.bool x, .int .u32 n, .bool r, .string d] 26)).alloc (.cells #[.bool y, .int .u32 m, .bool s, .string g] 26)).cell? ⟨w.heap.size, 1, none⟩ = some (.int .u32 n) := by rw [cell_of_row _ _ _ _ _ _ (heap_alloc2_old _ _ _)]; rfl
  have hc02 : ((w.alloc (.cells #[.bool x, .int .u32 n, .bool r, .string d] 26)).alloc (.cells #[.bool y, .int .u32 m, .bool s, .string g] 26)).cell? ⟨w.heap.size, 2, none⟩ = some (.bool r) := by rw [cell_of_row _ _ _ _ _ _ (heap_alloc2_old _ _ _)]; rfl
  have hc03 : ((w.alloc (.cells #[.bool x, .int .u32 n, .bool r, .string d] 26)).alloc (.cells #[.bool y, .int .u32 m, .bool s, .string g] 26)).cell? ⟨w.heap.size, 3, none⟩ = some (.string d) := by rw [cell_of_row _ _ _ _ _ _ (heap_alloc2_old _ _ _)]; rfl
  have hc10 : ((w.alloc (.cells #[.bool x, .int .u32 n, .bool r, .string d] 26)).alloc (.cells #[.bool y, .int .u32 m, .bool s, .string g] 26)).cell? ⟨w.heap.size + 1, 0, none⟩ = some (.bool y) := by rw [cell_of_row _ _ _ _ _ _ (heap_alloc2_new _ _ _)]; rfl
  have hc11 : ((w.alloc (.cells #[.bool x, .int .u32 n, .bool r, .string d] 26)).alloc (.cells #[.bool y, .int .u32 m, .bool s, .string g] 26)).cell? ⟨w.heap.size + 1, 1, none⟩ = some (.int .u32 m) := by rw [cell_of_row _ _ _ _ _ _ (heap_alloc2_new _ _ _)]; rfl
  have hc12 : ((w.alloc (.cells #[.bool x, .int .u32 n, .bool r, .string d] 26)).alloc (.cells #[.bool y, .int .u32 m, .bool s, .string g] 26)).cell? ⟨w.heap.size + 1, 2, none⟩ = some (.bool s) := by rw [cell_of_row _ _ _ _ _ _ (heap_alloc2_new _ _ _)]; rfl
  have hc13 : ((w.alloc (.cells #[.bool x, .int .u32 n, .bool r, .string d] 26)).alloc (.cells #[.bool y, .int .u32 m, .bool s, .string g] 26)).cell? ⟨w.heap.size + 1, 3, none⟩ = some (.string g) := by rw [cell_of_row _ _ _ _ _ _ (heap_alloc2_new _ _ _)]; rfl
  go_wp2_with fail
  go_region_with (first | (go_at_call_of 23 (Value.agg #[.bool x, .int .u32 (n : Int), .bool r, .string d]); refine (H1.out _).mono ?_; rintro e w1 ⟨rfl, hb1⟩; have c00 := (hb1.cell (p := ⟨w.heap.size, 0, none⟩) (by simp; omega)).trans (hc00); have c01 := (hb1.cell (p := ⟨w.heap.size, 1, none⟩) (by simp; omega)).trans (hc01); have c02 := (hb1.cell (p := ⟨w.heap.size, 2, none⟩) (by simp; omega)).trans (hc02); have c03 := (hb1.cell (p := ⟨w.heap.size, 3, none⟩) (by simp; omega)).trans (hc03); have c10 := (hb1.cell (p := ⟨w.heap.size + 1, 0, none⟩) (by simp)).trans (hc10); have c11 := (hb1.cell (p := ⟨w.heap.size + 1, 1, none⟩) (by simp)).trans (hc11); have c12 := (hb1.cell (p := ⟨w.heap.size + 1, 2, none⟩) (by simp)).trans (hc12); have c13 := (hb1.cell (p := ⟨w.heap.size + 1, 3, none⟩) (by simp)).trans (hc13)) | (go_at_call_of 23 (Value.agg #[.bool y, .int .u32 (m : Int), .bool s, .string g]); refine (H2.out _).mono ?_; rintro e w2 ⟨rfl, hb2⟩))
  all_goals
    have hb3 : Below w.heap.size w w2 := below_join (below_join ((Below.refl _ _).alloc (Nat.le_refl _) _ |>.alloc (by simp) _).drew hb1) hb2
    clear c00 c01 c02 c03 c10 c11 c12 c13 hb1 hb2 H1 H2 hc00 hc01 hc02 hc03 hc10 hc11 hc12 hc13
    go_wp2_with fail
    go_loopw [7] (fun i wr => ∃ k : Nat, k ≤ t.size ∧ k ≤ u.size ∧ i = .int .i64 k ∧ Hid (Fm.cmpB X Y = Fm.cmpB (X.drop k) (Y.drop k)) ∧ Below w.heap.size w wr) (fun i _ => t.size - (intOf i).toNat)
    case atStart => exact ⟨0, Nat.zero_le _, Nat.zero_le _, rfl, rfl, hb3⟩
    case round =>
      clear hb3
      obtain ⟨k, hk1, hk2, rfl, HK, hb3⟩ := hrel
      by_cases l1 : k < t.size
      · by_cases l2 : k < u.size
        · have HC : Hid (_) := cmp_step X Y k (by omega) (by omega)
          have e1 := At.out k l1 (by omega)
          have e2 := Au.out k l2 (by omega)
          have hne := sign_ne (X[k]'(by omega)) (Y[k]'(by omega))
          have h0 := sign_0 (X[k]'(by omega))
          rw [← e1, ← e2] at hne
          rw [← e1] at h0
          clear e1 e2
          have i1 := fun W => run_idx (P := Tryd.prog) 9 Tryd.underlying9 t k (k : Int) rfl l1 W
          have i2 := fun W => run_idx (P := Tryd.prog) 9 Tryd.underlying9 u k (k : Int) rfl l2 W
          generalize (X[k]'(by omega)) = p at *
          generalize (Y[k]'(by omega)) = q at *
          generalize t[k] = tk at *
          generalize u[k] = uk at *
          cases p <;> cases q
          · have hne' : ((tk.toNat : Int) != (uk.toNat : Int)) = false := hne
            clear hne h0
            go_wp2
            go_quiet (fail)
            go_wp2
            go_roundw
            case rel => exact ⟨k + 1, by omega, by omega, by go_num, by rw [HK.out, HC.out]; rfl, below_drewN hb3 _⟩
            case measure => simp [intOf]; omega
          · have hne' : ((tk.toNat : Int) != (uk.toNat : Int)) = true := hne
            have h0' : ((tk.toNat : Int) == 48) = true := h0
            clear hne h0
            go_wp2
            go_quiet (fail)
            go_wp2
            go_ret
            exact ⟨ret_int (by rw [HK.out, HC.out]; rfl), below_drewN hb3 _⟩
          · have hne' : ((tk.toNat : Int) != (uk.toNat : Int)) = true := hne
            have h0' : ((tk.toNat : Int) == 48) = false := h0
            clear hne h0
            go_wp2
            go_quiet (fail)
            go_wp2
            go_ret
            exact ⟨ret_int (by rw [HK.out, HC.out]; rfl), below_drewN hb3 _⟩
          · have hne' : ((tk.toNat : Int) != (uk.toNat : Int)) = false := hne
            clear hne h0
            go_wp2
            go_quiet (fail)
            go_wp2
            go_roundw
            case rel => exact ⟨k + 1, by omega, by omega, by go_num, by rw [HK.out, HC.out]; rfl, below_drewN hb3 _⟩
            case measure => simp [intOf]; omega
        · go_wp2
          go_ret
          exact ⟨ret_int (by rw [HK.out, cmp_end X Y k (Or.inr (by omega))]), hb3⟩
      · go_wp2
        go_ret
        exact ⟨ret_int (by rw [HK.out, cmp_end X Y k (Or.inl (by omega))]), hb3⟩
end Go.Proofs.YtoohmpkhljfpbaaDoor
