/- The document's own reader of frames: what Next answers at a laid bit, over its text. -/
import Derived.Test.YtaphdehhnnglgaaDoorV3
namespace Go.Proofs.YtaphdehhnnglgaaDoor
open Go.RowKit
set_option maxRecDepth 100000 in
set_option maxHeartbeats 4000000 in
theorem next_laid_none (g : Nat) (S : ByteArray) (hS : S.size ≤ 1000000) (p : List Bool) (R : List Bool) (c : UInt8) (w : World) (hR : R.length ≤ 1000000)  (hc : Sm.calm (0, false) R) (h5 : (Sm.run (0, false) R).1 = 5) (h6 : (Sm.step (Sm.run (0, false) R) (Bm.isOne c)).1 ≠ 6)
    (hrow : w.heap[g]? = some (.cells (rcs S ⟨(Bm.row p).toArray⟩ ⟨(Bm.row R).toArray⟩ (-1) (-1) false 0 false ⟨#[]⟩) 58 (0, 0))) :
    Calls Tryd.prog 34 #[.pointer (some ⟨g, 0, none⟩), .int .u8 (c.toNat : Int)] w fun e w' => e = .returned (.int .i64 0) ∧ w'.heap[g]? = some (.cells (rcs (S ++ ByteArray.mk #[Bm.sign (Bm.isOne c)]) ⟨(Bm.row p).toArray⟩ ⟨(Bm.row (R ++ [Bm.isOne c])).toArray⟩ (-1) (-1) false 0 false ⟨#[]⟩) 58 (0, 0)) ∧ But g w w' := by
  have hb0 := Bm.isOne_dec c
  generalize Bm.isOne c = b at *
  have HN1 : Hid (∀ w, Calls Tryd.prog 54 #[.string ⟨(Bm.row R).toArray⟩] w fun e w' => e = .returned (.int .i64 (Sm.next R)) ∧ Below w.heap.size w w') := fun w => rnext_row R (by omega) w
  have HU : Hid (∀ w, Calls Tryd.prog 55 #[.string ⟨(Bm.row (R ++ [b])).toArray⟩] w fun e w' => e = .returned (.tuple #[.string ⟨(Bm.row (Sm.unstuff (R ++ [b])).1).toArray⟩, .int .i64 (Sm.unstuff (R ++ [b])).2]) ∧ Below w.heap.size w w') := fun w => run_row (R ++ [b]) (by rw [List.length_append]; simp only [List.length_cons, List.length_nil]; omega) w
  have HN2 : Hid (∀ w, Calls Tryd.prog 54 #[.string ⟨(Bm.row (R ++ [b])).toArray⟩] w fun e w' => e = .returned (.int .i64 (Sm.next (R ++ [b]))) ∧ Below w.heap.size w w') := fun w => rnext_row (R ++ [b]) (by rw [List.length_append]; simp only [List.length_cons, List.length_nil]; omega) w
  have HRs : Hid (_) := row_snoc R b
  have HPs : Hid (_) := row_snoc p b
  have sR := size_rowr R
  have sP := size_rowr p
  have sP2 : (ByteArray.mk (Bm.row (p ++ [b])).toArray).size = p.length + 1 := by rw [size_rowr, List.length_append]; rfl
  have hun : (Sm.unstuff (R ++ [b])).2 = -1 := by
    rcases un_at R hc b with ⟨h, _⟩ | ⟨_, h⟩
    · exact absurd h h6
    · exact h
  have hnx : 0 ≤ Sm.next R := by
    rcases next_at R hc with ⟨_, h⟩ | ⟨h, _⟩
    · exact h
    · exact absurd h5 h
  clear h5 h6 hc
  generalize ByteArray.mk (Bm.row (Sm.unstuff (R ++ [b])).1).toArray = UU at *
  generalize ByteArray.mk (Bm.row (R ++ [b])).toArray = RR at *
  generalize ByteArray.mk (Bm.row (p ++ [b])).toArray = PP at *
  generalize ByteArray.mk (Bm.row R).toArray = Rb at *
  generalize ByteArray.mk (Bm.row p).toArray = Pb at *
  generalize Sm.next R = nx at *
  generalize Sm.next (R ++ [b]) = nx2 at *
  generalize (Sm.unstuff (R ++ [b])).2 = un at *
  have hz : g < w.heap.size := (Array.getElem?_eq_some_iff.1 hrow).1
  have HV : Hid (_) := hrow
  have hB : Hid (But g w w) := But.refl g w
  clear hrow
  go_enter Tryd.func34, Tryd.ntmps34
  go_wp2_with fail
  refine Lw.region_tail 11 (by kernel_rfl) (by kernel_rfl) ?_
  intro v1 hv1
  replace HV : Hid (_) := drew_row hv1 HV.out
  replace hB : Hid (But g w _) := But.trans hB.out (drew_but hv1)
  clear hv1
  have c0 : v1.cell? ⟨g, 0, none⟩ = some (.string S) := nine_cells HV.out 0 _ rfl
  have c4 : v1.cell? ⟨g, 4, none⟩ = some (.int .i64 (-1)) := nine_cells HV.out 4 _ rfl
  have c2 : v1.cell? ⟨g, 2, none⟩ = some (.string Rb) := nine_cells HV.out 2 _ rfl
  have z0 : v1.frozen? ⟨g, 0, none⟩ = false := frozen_of_row _ _ _ _ _ HV.out
  simp only [List.take_succ_cons, List.take_zero, List.drop_succ_cons, List.drop_zero]
  have hcat := fun W => run_cat S (ByteArray.mk #[Bm.sign ((c.toNat : Int) == 49)]) (by show _ + 1 ≤ _; omega) W
  rw [hb0] at hcat
  repeat (first | still_step | still_call (refBit_any _ _))
  refine wpStill_nil ?_
  clear hcat
  replace HV : Hid (_) := set0 HV.out (S ++ ByteArray.mk #[Bm.sign b])
  replace hB : Hid (But g w _) := But.trans hB.out (But.set g 0 (.string (S ++ ByteArray.mk #[Bm.sign b])) v1)
  go_wp2_with fail
  refine (HN1.out _).mono ?_
  rintro e v2 ⟨rfl, hb2⟩
  replace HV : Hid (_) := block_on (Array.getElem?_eq_some_iff.1 HV.out).1 hb2 HV.out
  replace hB : Hid (But g w _) := But.trans hB.out (But.of_below hb2)
  clear hb2 c0 c2 c4 z0 HN1
  go_wp2_with fail
  refine Lw.region_tail 11 (by kernel_rfl) (by kernel_rfl) ?_
  intro v3 hv3
  replace HV : Hid (_) := drew_row hv3 HV.out
  replace hB : Hid (But g w _) := But.trans hB.out (drew_but hv3)
  clear hv3
  have c2 : v3.cell? ⟨g, 2, none⟩ = some (.string Rb) := nine_cells HV.out 2 _ rfl
  have z2 : v3.frozen? ⟨g, 2, none⟩ = false := frozen_of_row _ _ _ _ _ HV.out
  simp only [List.take_succ_cons, List.take_zero, List.drop_succ_cons, List.drop_zero]
  have hcat := fun W => run_cat Rb (ByteArray.mk #[Bm.sign ((c.toNat : Int) == 49)]) (by show _ + 1 ≤ _; omega) W
  rw [hb0] at hcat
  repeat (first | still_step | still_call (refBit_any _ _))
  refine wpStill_nil ?_
  clear hcat
  replace HV : Hid (_) := set2r HV.out (Rb ++ ByteArray.mk #[Bm.sign b])
  replace hB : Hid (But g w _) := But.trans hB.out (But.set g 2 (.string (Rb ++ ByteArray.mk #[Bm.sign b])) v3)
  rw [HRs.out] at HV hB ⊢
  go_wp2_with fail
  refine (HU.out _).mono ?_
  rintro e v4 ⟨rfl, hb4⟩
  replace HV : Hid (_) := block_on (Array.getElem?_eq_some_iff.1 HV.out).1 hb4 HV.out
  replace hB : Hid (But g w _) := But.trans hB.out (But.of_below hb4)
  clear hb4 c2 z2 HU
  go_wp2_with fail
  have HF : Hid (∀ w', Below v4.heap.size v4 w' → ∀ (k : Nat) (yy : Value), (rcs (S ++ ByteArray.mk #[Bm.sign b]) Pb RR (-1) (-1) false 0 false ⟨#[]⟩)[k]? = some yy → w'.cell? ⟨g, k, none⟩ = some yy) := fun w' hb k yy hx => (hb.cell (p := ⟨g, k, none⟩) (Array.getElem?_eq_some_iff.1 HV.out).1).trans (nine_cells HV.out k yy hx)
  unfold rcs at HF
  refine Lw.wp_region_quiet_below (by kernel_rfl) (by kernel_rfl) ?_
  repeat (first
    | go_big_quiet_skip
    | (go_big_quiet_want; go_big_quiet_op; go_big_quiet_on)
    | (go_big_quiet_want; go_big_quiet_op; apply Exists.intro; refine ⟨fun _ hb' => ?_, ?_⟩; (first
      | exact Lw.val_rfl _
      | (go_at_call 54; exact Lw.calls_below hb' (HN2.out _))
      | (simp [go_sem, HF.out _ hb' 1 _ rfl]; rfl)
      | (simp [go_sem, HF.out _ hb' 2 _ rfl]; rfl)
      | (simp [go_sem, HF.out _ hb' 3 _ rfl]; rfl)); go_big_quiet_on))
  refine wpQuiet_nil ?_
  intro v9 hb9
  replace HV : Hid (_) := block_on (Array.getElem?_eq_some_iff.1 HV.out).1 hb9 HV.out
  replace hB : Hid (But g w _) := But.trans hB.out (But.of_below hb9)
  clear hb9 HF HN2
  go_wp2
  go_ret
  exact ⟨rfl, HV.out, hB.out⟩
set_option maxRecDepth 100000 in
set_option maxHeartbeats 4000000 in
theorem next_laid_some (g : Nat) (S : ByteArray) (hS : S.size ≤ 1000000) (p : List Bool) (R : List Bool) (c : UInt8) (w : World) (hR : R.length ≤ 1000000) (nn : Nat) (hnn : nn ≤ 1000000) (x : Bool) (n : Nat) (r : Bool) (d : ByteArray) (hc : Sm.calm (0, false) R) (h5 : (Sm.run (0, false) R).1 = 5) (h6 : (Sm.step (Sm.run (0, false) R) (Bm.isOne c)).1 ≠ 6)
    (hrow : w.heap[g]? = some (.cells (rcs S ⟨(Bm.row p).toArray⟩ ⟨(Bm.row R).toArray⟩ (nn : Int) (-1) x n r d) 58 (0, 0))) :
    Calls Tryd.prog 34 #[.pointer (some ⟨g, 0, none⟩), .int .u8 (c.toNat : Int)] w fun e w' => e = .returned (.int .i64 0) ∧ w'.heap[g]? = some (.cells (rcs (S ++ ByteArray.mk #[Bm.sign (Bm.isOne c)]) ⟨(Bm.row p).toArray⟩ ⟨(Bm.row (R ++ [Bm.isOne c])).toArray⟩ (nn : Int) (if p.length = nn + 15 ∧ (Sm.step (Sm.run (0, false) R) (Bm.isOne c)).1 ≠ 5 then (0 : Int) else -1) x n r d) 58 (0, 0)) ∧ But g w w' := by
  have hb0 := Bm.isOne_dec c
  generalize Bm.isOne c = b at *
  have HN1 : Hid (∀ w, Calls Tryd.prog 54 #[.string ⟨(Bm.row R).toArray⟩] w fun e w' => e = .returned (.int .i64 (Sm.next R)) ∧ Below w.heap.size w w') := fun w => rnext_row R (by omega) w
  have HU : Hid (∀ w, Calls Tryd.prog 55 #[.string ⟨(Bm.row (R ++ [b])).toArray⟩] w fun e w' => e = .returned (.tuple #[.string ⟨(Bm.row (Sm.unstuff (R ++ [b])).1).toArray⟩, .int .i64 (Sm.unstuff (R ++ [b])).2]) ∧ Below w.heap.size w w') := fun w => run_row (R ++ [b]) (by rw [List.length_append]; simp only [List.length_cons, List.length_nil]; omega) w
  have HN2 : Hid (∀ w, Calls Tryd.prog 54 #[.string ⟨(Bm.row (R ++ [b])).toArray⟩] w fun e w' => e = .returned (.int .i64 (Sm.next (R ++ [b]))) ∧ Below w.heap.size w w') := fun w => rnext_row (R ++ [b]) (by rw [List.length_append]; simp only [List.length_cons, List.length_nil]; omega) w
  have HRs : Hid (_) := row_snoc R b
  have HPs : Hid (_) := row_snoc p b
  have sR := size_rowr R
  have sP := size_rowr p
  have sP2 : (ByteArray.mk (Bm.row (p ++ [b])).toArray).size = p.length + 1 := by rw [size_rowr, List.length_append]; rfl
  have hun : (Sm.unstuff (R ++ [b])).2 = -1 := by
    rcases un_at R hc b with ⟨h, _⟩ | ⟨_, h⟩
    · exact absurd h h6
    · exact h
  have hnx : 0 ≤ Sm.next R := by
    rcases next_at R hc with ⟨_, h⟩ | ⟨h, _⟩
    · exact h
    · exact absurd h5 h
  have htl : ((p.length = nn + 15 ∧ Sm.next (R ++ [b]) < 0) ∧ (if p.length = nn + 15 ∧ (Sm.step (Sm.run (0, false) R) b).1 ≠ 5 then (0 : Int) else -1) = 0) ∨ (¬ (p.length = nn + 15 ∧ Sm.next (R ++ [b]) < 0) ∧ (if p.length = nn + 15 ∧ (Sm.step (Sm.run (0, false) R) b).1 ≠ 5 then (0 : Int) else -1) = -1) := by
    have h := next_at (R ++ [b]) (calm_snoc R hc b h6)
    rw [run_snoc] at h
    by_cases hl : p.length = nn + 15
    · rcases h with ⟨h, h'⟩ | ⟨h, h'⟩
      · right
        exact ⟨fun k => by omega, if_neg (fun k => k.2 h)⟩
      · left
        exact ⟨⟨hl, h'⟩, if_pos ⟨hl, h⟩⟩
    · right
      exact ⟨fun k => hl k.1, if_neg (fun k => hl k.1)⟩
  generalize (if p.length = nn + 15 ∧ (Sm.step (Sm.run (0, false) R) b).1 ≠ 5 then (0 : Int) else -1) = tl at *
  clear h5 h6 hc
  generalize ByteArray.mk (Bm.row (Sm.unstuff (R ++ [b])).1).toArray = UU at *
  generalize ByteArray.mk (Bm.row (R ++ [b])).toArray = RR at *
  generalize ByteArray.mk (Bm.row (p ++ [b])).toArray = PP at *
  generalize ByteArray.mk (Bm.row R).toArray = Rb at *
  generalize ByteArray.mk (Bm.row p).toArray = Pb at *
  generalize Sm.next R = nx at *
  generalize Sm.next (R ++ [b]) = nx2 at *
  generalize (Sm.unstuff (R ++ [b])).2 = un at *
  have hz : g < w.heap.size := (Array.getElem?_eq_some_iff.1 hrow).1
  have HV : Hid (_) := hrow
  have hB : Hid (But g w w) := But.refl g w
  clear hrow
  go_enter Tryd.func34, Tryd.ntmps34
  go_wp2_with fail
  refine Lw.region_tail 11 (by kernel_rfl) (by kernel_rfl) ?_
  intro v1 hv1
  replace HV : Hid (_) := drew_row hv1 HV.out
  replace hB : Hid (But g w _) := But.trans hB.out (drew_but hv1)
  clear hv1
  have c0 : v1.cell? ⟨g, 0, none⟩ = some (.string S) := nine_cells HV.out 0 _ rfl
  have c4 : v1.cell? ⟨g, 4, none⟩ = some (.int .i64 (-1)) := nine_cells HV.out 4 _ rfl
  have c2 : v1.cell? ⟨g, 2, none⟩ = some (.string Rb) := nine_cells HV.out 2 _ rfl
  have z0 : v1.frozen? ⟨g, 0, none⟩ = false := frozen_of_row _ _ _ _ _ HV.out
  simp only [List.take_succ_cons, List.take_zero, List.drop_succ_cons, List.drop_zero]
  have hcat := fun W => run_cat S (ByteArray.mk #[Bm.sign ((c.toNat : Int) == 49)]) (by show _ + 1 ≤ _; omega) W
  rw [hb0] at hcat
  repeat (first | still_step | still_call (refBit_any _ _))
  refine wpStill_nil ?_
  clear hcat
  replace HV : Hid (_) := set0 HV.out (S ++ ByteArray.mk #[Bm.sign b])
  replace hB : Hid (But g w _) := But.trans hB.out (But.set g 0 (.string (S ++ ByteArray.mk #[Bm.sign b])) v1)
  go_wp2_with fail
  refine (HN1.out _).mono ?_
  rintro e v2 ⟨rfl, hb2⟩
  replace HV : Hid (_) := block_on (Array.getElem?_eq_some_iff.1 HV.out).1 hb2 HV.out
  replace hB : Hid (But g w _) := But.trans hB.out (But.of_below hb2)
  clear hb2 c0 c2 c4 z0 HN1
  go_wp2_with fail
  refine Lw.region_tail 11 (by kernel_rfl) (by kernel_rfl) ?_
  intro v3 hv3
  replace HV : Hid (_) := drew_row hv3 HV.out
  replace hB : Hid (But g w _) := But.trans hB.out (drew_but hv3)
  clear hv3
  have c2 : v3.cell? ⟨g, 2, none⟩ = some (.string Rb) := nine_cells HV.out 2 _ rfl
  have z2 : v3.frozen? ⟨g, 2, none⟩ = false := frozen_of_row _ _ _ _ _ HV.out
  simp only [List.take_succ_cons, List.take_zero, List.drop_succ_cons, List.drop_zero]
  have hcat := fun W => run_cat Rb (ByteArray.mk #[Bm.sign ((c.toNat : Int) == 49)]) (by show _ + 1 ≤ _; omega) W
  rw [hb0] at hcat
  repeat (first | still_step | still_call (refBit_any _ _))
  refine wpStill_nil ?_
  clear hcat
  replace HV : Hid (_) := set2r HV.out (Rb ++ ByteArray.mk #[Bm.sign b])
  replace hB : Hid (But g w _) := But.trans hB.out (But.set g 2 (.string (Rb ++ ByteArray.mk #[Bm.sign b])) v3)
  rw [HRs.out] at HV hB ⊢
  go_wp2_with fail
  refine (HU.out _).mono ?_
  rintro e v4 ⟨rfl, hb4⟩
  replace HV : Hid (_) := block_on (Array.getElem?_eq_some_iff.1 HV.out).1 hb4 HV.out
  replace hB : Hid (But g w _) := But.trans hB.out (But.of_below hb4)
  clear hb4 c2 z2 HU
  go_wp2_with fail
  have HF : Hid (∀ w', Below v4.heap.size v4 w' → ∀ (k : Nat) (yy : Value), (rcs (S ++ ByteArray.mk #[Bm.sign b]) Pb RR (nn : Int) (-1) x n r d)[k]? = some yy → w'.cell? ⟨g, k, none⟩ = some yy) := fun w' hb k yy hx => (hb.cell (p := ⟨g, k, none⟩) (Array.getElem?_eq_some_iff.1 HV.out).1).trans (nine_cells HV.out k yy hx)
  unfold rcs at HF
  have hln : Pb.size = p.length := by omega
  clear sP sP2
  by_cases hl : Pb.size = nn + 15
  · skip
    have hl3 : p.length = nn + 15 := by omega
    clear hln
    refine Lw.wp_region_quiet_below (by kernel_rfl) (by kernel_rfl) ?_
    repeat (first
      | go_big_quiet_skip
      | (go_big_quiet_want; go_big_quiet_op; go_big_quiet_on)
      | (go_big_quiet_want; go_big_quiet_op; apply Exists.intro; refine ⟨fun _ hb' => ?_, ?_⟩; (first
        | exact Lw.val_rfl _
        | (go_at_call 54; exact Lw.calls_below hb' (HN2.out _))
        | (simp [go_sem, HF.out _ hb' 1 _ rfl]; rfl)
        | (simp [go_sem, HF.out _ hb' 2 _ rfl]; rfl)
        | (simp [go_sem, HF.out _ hb' 3 _ rfl]; rfl)); go_big_quiet_on))
    refine wpQuiet_nil ?_
    intro v9 hb9
    replace HV : Hid (_) := block_on (Array.getElem?_eq_some_iff.1 HV.out).1 hb9 HV.out
    replace hB : Hid (But g w _) := But.trans hB.out (But.of_below hb9)
    clear hb9 HF HN2
    rcases htl with ⟨⟨_, hn⟩, rfl⟩ | ⟨hn, rfl⟩
    · skip
      have z4 : v9.frozen? ⟨g, 4, none⟩ = false := frozen_of_row _ _ _ _ _ HV.out
      have c4 : v9.cell? ⟨g, 4, none⟩ = some (.int .i64 (-1)) := nine_cells HV.out 4 _ rfl
      go_wp2
      go_ret
      exact ⟨rfl, set4 HV.out 0, But.trans hB.out (But.set g 4 (.int .i64 0) v9)⟩
    · skip
      have hn2 : ¬ nx2 < 0 := fun k => hn ⟨hl3, k⟩
      go_wp2
      go_ret
      exact ⟨rfl, HV.out, hB.out⟩
  · skip
    have htl0 : tl = -1 := by
      rcases htl with ⟨⟨h, _⟩, _⟩ | ⟨_, h⟩
      · omega
      · exact h
    subst htl0
    clear hln
    have hl1 : ((Pb.size : Int) == (nn : Int) + 15) = false := by
      rw [beq_eq_false_iff_ne]
      omega
    refine Lw.wp_region_quiet_below (by kernel_rfl) (by kernel_rfl) ?_
    repeat (first
      | go_big_quiet_skip
      | (go_big_quiet_want; go_big_quiet_op; go_big_quiet_on)
      | (go_big_quiet_want; go_big_quiet_op; apply Exists.intro; refine ⟨fun _ hb' => ?_, ?_⟩; (first
        | exact Lw.val_rfl _
        | (go_at_call 54; exact Lw.calls_below hb' (HN2.out _))
        | (simp [go_sem, HF.out _ hb' 1 _ rfl]; rfl)
        | (simp [go_sem, HF.out _ hb' 2 _ rfl]; rfl)
        | (simp [go_sem, HF.out _ hb' 3 _ rfl]; rfl)); go_big_quiet_on))
    refine wpQuiet_nil ?_
    intro v9 hb9
    replace HV : Hid (_) := block_on (Array.getElem?_eq_some_iff.1 HV.out).1 hb9 HV.out
    replace hB : Hid (But g w _) := But.trans hB.out (But.of_below hb9)
    clear hb9 HF HN2
    go_wp2
    go_ret
    exact ⟨rfl, HV.out, hB.out⟩
end Go.Proofs.YtaphdehhnnglgaaDoor
