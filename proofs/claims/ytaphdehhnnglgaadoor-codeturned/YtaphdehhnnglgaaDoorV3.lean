/- The document's own reader of frames: what Next answers up to the sum, over its text. -/
import Derived.Test.YtaphdehhnnglgaaDoorV2
namespace Go.Proofs.YtaphdehhnnglgaaDoor
open Go.RowKit
theorem row_snoc (p : List Bool) (b : Bool) : ByteArray.mk (Bm.row p).toArray ++ ByteArray.mk #[Bm.sign b] = ByteArray.mk (Bm.row (p ++ [b])).toArray := by
  rw [show ByteArray.mk #[Bm.sign b] = ByteArray.mk (Bm.row [b]).toArray from rfl, Bm.str_app]
  simp [Bm.row]
theorem size_rowr (p : List Bool) : (ByteArray.mk (Bm.row p).toArray).size = p.length := by rw [size_str, Bm.length_row]
theorem read_rowr (p : List Bool) : Bm.read (ByteArray.mk (Bm.row p).toArray).data.toList = p := by
  show Bm.read (Bm.row p) = p
  exact Bm.read_row p
theorem next_at (R : List Bool) (hc : Sm.calm (0, false) R) : (Sm.run (0, false) R).1 = 5 ∧ 0 ≤ Sm.next R ∨ (Sm.run (0, false) R).1 ≠ 5 ∧ Sm.next R < 0 := by
  have h0 : (Sm.unstuff R).2 = -1 := Sm.un_calm R (0, false) [] 0 hc
  unfold Sm.next
  rw [h0, if_neg (by decide)]
  by_cases h : (Sm.run (0, false) R).1 = 5
  · rw [if_pos h]; left; refine ⟨h, ?_⟩; split <;> decide
  · rw [if_neg h]; right; exact ⟨h, by decide⟩
theorem un_at (R : List Bool) (hc : Sm.calm (0, false) R) (b : Bool) : (Sm.step (Sm.run (0, false) R) b).1 = 6 ∧ (Sm.unstuff (R ++ [b])).2 = (R.length : Int) ∨ (Sm.step (Sm.run (0, false) R) b).1 ≠ 6 ∧ (Sm.unstuff (R ++ [b])).2 = -1 := by
  have h := Sm.un_append R [b] (0, false) [] 0 hc
  unfold Sm.unstuff
  rw [h]
  by_cases h6 : (Sm.step (Sm.run (0, false) R) b).1 = 6
  · left; refine ⟨h6, ?_⟩; unfold Sm.unB; rw [if_pos h6, Nat.zero_add]
  · right; refine ⟨h6, ?_⟩; unfold Sm.unB; rw [if_neg h6]; rfl
theorem calm_snoc (R : List Bool) (hc : Sm.calm (0, false) R) (b : Bool) (h : (Sm.step (Sm.run (0, false) R) b).1 ≠ 6) : Sm.calm (0, false) (R ++ [b]) := by
  intro k
  have h5 := Sm.calm_run hc
  have hle := Sm.step_le (Sm.run (0, false) R) b
  by_cases hk : k ≤ R.length
  · rw [List.take_append_of_le_length hk]; exact hc k
  · rw [List.take_of_length_le (by rw [List.length_append]; simp only [List.length_cons, List.length_nil]; omega), Sm.run_append]
    show (Sm.step (Sm.run (0, false) R) b).1 ≤ 5
    omega
theorem run_snoc (R : List Bool) (b : Bool) : Sm.run (0, false) (R ++ [b]) = Sm.step (Sm.run (0, false) R) b := by rw [Sm.run_append]; rfl
theorem rnext_row (R : List Bool) (h : R.length ≤ 1048576) (w : World) : Calls Tryd.prog 54 #[.string ⟨(Bm.row R).toArray⟩] w fun e w' => e = .returned (.int .i64 (Sm.next R)) ∧ Below w.heap.size w w' := by
  have := rnext_any ⟨(Bm.row R).toArray⟩ w (by rw [size_rowr]; exact h)
  rw [read_rowr] at this
  exact this
theorem run_row (R : List Bool) (h : R.length ≤ 1048576) (w : World) : Calls Tryd.prog 55 #[.string ⟨(Bm.row R).toArray⟩] w fun e w' => e = .returned (.tuple #[.string ⟨(Bm.row (Sm.unstuff R).1).toArray⟩, .int .i64 (Sm.unstuff R).2]) ∧ Below w.heap.size w w' := by
  have := runstuff_any ⟨(Bm.row R).toArray⟩ w (by rw [size_rowr]; exact h)
  rw [read_rowr] at this
  exact this
theorem rparse_row (p : List Bool) (h : p.length ≤ 1048576) (w : World) : Calls Tryd.prog 56 #[.string ⟨(Bm.row p).toArray⟩] w fun e w' => e = .returned (fv (Fm.parse p)) ∧ Below w.heap.size w w' := by
  have := refFParse_any ⟨(Bm.row p).toArray⟩ w (by rw [size_rowr]; exact h)
  rw [read_rowr] at this
  exact this
set_option maxRecDepth 100000 in
set_option maxHeartbeats 4000000 in
theorem next_six_none (g : Nat) (S : ByteArray) (hS : S.size ≤ 1000000) (p : List Bool) (R : List Bool) (c : UInt8) (w : World) (hR : R.length ≤ 1000000)  (hc : Sm.calm (0, false) R) (h6 : (Sm.step (Sm.run (0, false) R) (Bm.isOne c)).1 = 6)
    (hrow : w.heap[g]? = some (.cells (rcs S ⟨(Bm.row p).toArray⟩ ⟨(Bm.row R).toArray⟩ (-1) (-1) false 0 false ⟨#[]⟩) 58 (0, 0))) :
    Calls Tryd.prog 34 #[.pointer (some ⟨g, 0, none⟩), .int .u8 (c.toNat : Int)] w fun e w' => e = .returned (.int .i64 20) ∧ But g w w' := by
  have hb0 := Bm.isOne_dec c
  generalize Bm.isOne c = b at *
  have HN1 : Hid (∀ w, Calls Tryd.prog 54 #[.string ⟨(Bm.row R).toArray⟩] w fun e w' => e = .returned (.int .i64 (Sm.next R)) ∧ Below w.heap.size w w') := fun w => rnext_row R (by omega) w
  have HU : Hid (∀ w, Calls Tryd.prog 55 #[.string ⟨(Bm.row (R ++ [b])).toArray⟩] w fun e w' => e = .returned (.tuple #[.string ⟨(Bm.row (Sm.unstuff (R ++ [b])).1).toArray⟩, .int .i64 (Sm.unstuff (R ++ [b])).2]) ∧ Below w.heap.size w w') := fun w => run_row (R ++ [b]) (by rw [List.length_append]; simp only [List.length_cons, List.length_nil]; omega) w
  have HN2 : Hid (∀ w, Calls Tryd.prog 54 #[.string ⟨(Bm.row (R ++ [b])).toArray⟩] w fun e w' => e = .returned (.int .i64 (Sm.next (R ++ [b]))) ∧ Below w.heap.size w w') := fun w => rnext_row (R ++ [b]) (by rw [List.length_append]; simp only [List.length_cons, List.length_nil]; omega) w
  have HRs : Hid (_) := row_snoc R b
  have HPs : Hid (_) := row_snoc p b
  have sR := size_rowr R
  have sP := size_rowr p
  have sP2 : (ByteArray.mk (Bm.row (p ++ [b])).toArray).size = p.length + 1 := by rw [size_rowr, List.length_append]; rfl
  have hun : 0 ≤ (Sm.unstuff (R ++ [b])).2 := by
    rcases un_at R hc b with ⟨_, h⟩ | ⟨h, _⟩
    · rw [h]; omega
    · exact absurd h6 h
  clear h6 hc
  generalize ByteArray.mk (Bm.row (Sm.unstuff (R ++ [b])).1).toArray = UU at *
  generalize ByteArray.mk (Bm.row (R ++ [b])).toArray = RR at *
  generalize ByteArray.mk (Bm.row (p ++ [b])).toArray = PP at *
  generalize ByteArray.mk (Bm.row R).toArray = Rb at *
  generalize ByteArray.mk (Bm.row p).toArray = Pb at *
  generalize Sm.next R = nx at *
  generalize Sm.next (R ++ [b]) = nx2 at *
  generalize (Sm.unstuff (R ++ [b])).2 = un at *
  have hz : g < w.heap.size := (Array.getElem?_eq_some_iff.1 hrow).1
  have HV : Hid (_) := hrow
  have hB : Hid (But g w w) := But.refl g w
  clear hrow
  go_enter Tryd.func34, Tryd.ntmps34
  go_wp2_with fail
  refine Lw.region_tail 11 (by kernel_rfl) (by kernel_rfl) ?_
  intro v1 hv1
  replace HV : Hid (_) := drew_row hv1 HV.out
  replace hB : Hid (But g w _) := But.trans hB.out (drew_but hv1)
  clear hv1
  have c0 : v1.cell? ⟨g, 0, none⟩ = some (.string S) := nine_cells HV.out 0 _ rfl
  have c4 : v1.cell? ⟨g, 4, none⟩ = some (.int .i64 (-1)) := nine_cells HV.out 4 _ rfl
  have c2 : v1.cell? ⟨g, 2, none⟩ = some (.string Rb) := nine_cells HV.out 2 _ rfl
  have z0 : v1.frozen? ⟨g, 0, none⟩ = false := frozen_of_row _ _ _ _ _ HV.out
  simp only [List.take_succ_cons, List.take_zero, List.drop_succ_cons, List.drop_zero]
  have hcat := fun W => run_cat S (ByteArray.mk #[Bm.sign ((c.toNat : Int) == 49)]) (by show _ + 1 ≤ _; omega) W
  rw [hb0] at hcat
  repeat (first | still_step | still_call (refBit_any _ _))
  refine wpStill_nil ?_
  clear hcat
  replace HV : Hid (_) := set0 HV.out (S ++ ByteArray.mk #[Bm.sign b])
  replace hB : Hid (But g w _) := But.trans hB.out (But.set g 0 (.string (S ++ ByteArray.mk #[Bm.sign b])) v1)
  go_wp2_with fail
  refine (HN1.out _).mono ?_
  rintro e v2 ⟨rfl, hb2⟩
  replace HV : Hid (_) := block_on (Array.getElem?_eq_some_iff.1 HV.out).1 hb2 HV.out
  replace hB : Hid (But g w _) := But.trans hB.out (But.of_below hb2)
  clear hb2 c0 c2 c4 z0 HN1
  go_wp2_with fail
  refine Lw.region_tail 11 (by kernel_rfl) (by kernel_rfl) ?_
  intro v3 hv3
  replace HV : Hid (_) := drew_row hv3 HV.out
  replace hB : Hid (But g w _) := But.trans hB.out (drew_but hv3)
  clear hv3
  have c2 : v3.cell? ⟨g, 2, none⟩ = some (.string Rb) := nine_cells HV.out 2 _ rfl
  have z2 : v3.frozen? ⟨g, 2, none⟩ = false := frozen_of_row _ _ _ _ _ HV.out
  simp only [List.take_succ_cons, List.take_zero, List.drop_succ_cons, List.drop_zero]
  have hcat := fun W => run_cat Rb (ByteArray.mk #[Bm.sign ((c.toNat : Int) == 49)]) (by show _ + 1 ≤ _; omega) W
  rw [hb0] at hcat
  repeat (first | still_step | still_call (refBit_any _ _))
  refine wpStill_nil ?_
  clear hcat
  replace HV : Hid (_) := set2r HV.out (Rb ++ ByteArray.mk #[Bm.sign b])
  replace hB : Hid (But g w _) := But.trans hB.out (But.set g 2 (.string (Rb ++ ByteArray.mk #[Bm.sign b])) v3)
  rw [HRs.out] at HV hB ⊢
  go_wp2_with fail
  refine (HU.out _).mono ?_
  rintro e v4 ⟨rfl, hb4⟩
  replace HV : Hid (_) := block_on (Array.getElem?_eq_some_iff.1 HV.out).1 hb4 HV.out
  replace hB : Hid (But g w _) := But.trans hB.out (But.of_below hb4)
  clear hb4 c2 z2 HU
  go_wp2
  all_goals
    go_ret
    exact ⟨rfl, hB.out⟩
set_option maxRecDepth 100000 in
set_option maxHeartbeats 4000000 in
theorem next_six_some (g : Nat) (S : ByteArray) (hS : S.size ≤ 1000000) (p : List Bool) (R : List Bool) (c : UInt8) (w : World) (hR : R.length ≤ 1000000) (nn : Nat) (x : Bool) (n : Nat) (r : Bool) (d : ByteArray) (hc : Sm.calm (0, false) R) (h6 : (Sm.step (Sm.run (0, false) R) (Bm.isOne c)).1 = 6)
    (hrow : w.heap[g]? = some (.cells (rcs S ⟨(Bm.row p).toArray⟩ ⟨(Bm.row R).toArray⟩ (nn : Int) (-1) x n r d) 58 (0, 0))) :
    Calls Tryd.prog 34 #[.pointer (some ⟨g, 0, none⟩), .int .u8 (c.toNat : Int)] w fun e w' => e = .returned (.int .i64 20) ∧ But g w w' := by
  have hb0 := Bm.isOne_dec c
  generalize Bm.isOne c = b at *
  have HN1 : Hid (∀ w, Calls Tryd.prog 54 #[.string ⟨(Bm.row R).toArray⟩] w fun e w' => e = .returned (.int .i64 (Sm.next R)) ∧ Below w.heap.size w w') := fun w => rnext_row R (by omega) w
  have HU : Hid (∀ w, Calls Tryd.prog 55 #[.string ⟨(Bm.row (R ++ [b])).toArray⟩] w fun e w' => e = .returned (.tuple #[.string ⟨(Bm.row (Sm.unstuff (R ++ [b])).1).toArray⟩, .int .i64 (Sm.unstuff (R ++ [b])).2]) ∧ Below w.heap.size w w') := fun w => run_row (R ++ [b]) (by rw [List.length_append]; simp only [List.length_cons, List.length_nil]; omega) w
  have HN2 : Hid (∀ w, Calls Tryd.prog 54 #[.string ⟨(Bm.row (R ++ [b])).toArray⟩] w fun e w' => e = .returned (.int .i64 (Sm.next (R ++ [b]))) ∧ Below w.heap.size w w') := fun w => rnext_row (R ++ [b]) (by rw [List.length_append]; simp only [List.length_cons, List.length_nil]; omega) w
  have HRs : Hid (_) := row_snoc R b
  have HPs : Hid (_) := row_snoc p b
  have sR := size_rowr R
  have sP := size_rowr p
  have sP2 : (ByteArray.mk (Bm.row (p ++ [b])).toArray).size = p.length + 1 := by rw [size_rowr, List.length_append]; rfl
  have hun : 0 ≤ (Sm.unstuff (R ++ [b])).2 := by
    rcases un_at R hc b with ⟨_, h⟩ | ⟨h, _⟩
    · rw [h]; omega
    · exact absurd h6 h
  clear h6 hc
  generalize ByteArray.mk (Bm.row (Sm.unstuff (R ++ [b])).1).toArray = UU at *
  generalize ByteArray.mk (Bm.row (R ++ [b])).toArray = RR at *
  generalize ByteArray.mk (Bm.row (p ++ [b])).toArray = PP at *
  generalize ByteArray.mk (Bm.row R).toArray = Rb at *
  generalize ByteArray.mk (Bm.row p).toArray = Pb at *
  generalize Sm.next R = nx at *
  generalize Sm.next (R ++ [b]) = nx2 at *
  generalize (Sm.unstuff (R ++ [b])).2 = un at *
  have hz : g < w.heap.size := (Array.getElem?_eq_some_iff.1 hrow).1
  have HV : Hid (_) := hrow
  have hB : Hid (But g w w) := But.refl g w
  clear hrow
  go_enter Tryd.func34, Tryd.ntmps34
  go_wp2_with fail
  refine Lw.region_tail 11 (by kernel_rfl) (by kernel_rfl) ?_
  intro v1 hv1
  replace HV : Hid (_) := drew_row hv1 HV.out
  replace hB : Hid (But g w _) := But.trans hB.out (drew_but hv1)
  clear hv1
  have c0 : v1.cell? ⟨g, 0, none⟩ = some (.string S) := nine_cells HV.out 0 _ rfl
  have c4 : v1.cell? ⟨g, 4, none⟩ = some (.int .i64 (-1)) := nine_cells HV.out 4 _ rfl
  have c2 : v1.cell? ⟨g, 2, none⟩ = some (.string Rb) := nine_cells HV.out 2 _ rfl
  have z0 : v1.frozen? ⟨g, 0, none⟩ = false := frozen_of_row _ _ _ _ _ HV.out
  simp only [List.take_succ_cons, List.take_zero, List.drop_succ_cons, List.drop_zero]
  have hcat := fun W => run_cat S (ByteArray.mk #[Bm.sign ((c.toNat : Int) == 49)]) (by show _ + 1 ≤ _; omega) W
  rw [hb0] at hcat
  repeat (first | still_step | still_call (refBit_any _ _))
  refine wpStill_nil ?_
  clear hcat
  replace HV : Hid (_) := set0 HV.out (S ++ ByteArray.mk #[Bm.sign b])
  replace hB : Hid (But g w _) := But.trans hB.out (But.set g 0 (.string (S ++ ByteArray.mk #[Bm.sign b])) v1)
  go_wp2_with fail
  refine (HN1.out _).mono ?_
  rintro e v2 ⟨rfl, hb2⟩
  replace HV : Hid (_) := block_on (Array.getElem?_eq_some_iff.1 HV.out).1 hb2 HV.out
  replace hB : Hid (But g w _) := But.trans hB.out (But.of_below hb2)
  clear hb2 c0 c2 c4 z0 HN1
  go_wp2_with fail
  refine Lw.region_tail 11 (by kernel_rfl) (by kernel_rfl) ?_
  intro v3 hv3
  replace HV : Hid (_) := drew_row hv3 HV.out
  replace hB : Hid (But g w _) := But.trans hB.out (drew_but hv3)
  clear hv3
  have c2 : v3.cell? ⟨g, 2, none⟩ = some (.string Rb) := nine_cells HV.out 2 _ rfl
  have z2 : v3.frozen? ⟨g, 2, none⟩ = false := frozen_of_row _ _ _ _ _ HV.out
  simp only [List.take_succ_cons, List.take_zero, List.drop_succ_cons, List.drop_zero]
  have hcat := fun W => run_cat Rb (ByteArray.mk #[Bm.sign ((c.toNat : Int) == 49)]) (by show _ + 1 ≤ _; omega) W
  rw [hb0] at hcat
  repeat (first | still_step | still_call (refBit_any _ _))
  refine wpStill_nil ?_
  clear hcat
  replace HV : Hid (_) := set2r HV.out (Rb ++ ByteArray.mk #[Bm.sign b])
  replace hB : Hid (But g w _) := But.trans hB.out (But.set g 2 (.string (Rb ++ ByteArray.mk #[Bm.sign b])) v3)
  rw [HRs.out] at HV hB ⊢
  go_wp2_with fail
  refine (HU.out _).mono ?_
  rintro e v4 ⟨rfl, hb4⟩
  replace HV : Hid (_) := block_on (Array.getElem?_eq_some_iff.1 HV.out).1 hb4 HV.out
  replace hB : Hid (But g w _) := But.trans hB.out (But.of_below hb4)
  clear hb4 c2 z2 HU
  go_wp2
  all_goals
    go_ret
    exact ⟨rfl, hB.out⟩
end Go.Proofs.YtaphdehhnnglgaaDoor
