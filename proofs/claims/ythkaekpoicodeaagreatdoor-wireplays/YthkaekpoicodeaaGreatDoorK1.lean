/- What the document's own counters answer, over their text. -/
import Derived.Test.YthkaekpoicodeaaGreatDoorUd
import Derived.WalkKit
import Derived.WalkSpells
import Derived.WalkLawsBesides
import Derived.Handy
import Derived.Below
namespace Go.Proofs.YthkaekpoicodeaaGreatDoor
open Go.RowKit
set_option maxHeartbeats 1000000 in
theorem ris_any (s g : Int) (w : World) : Calls Tryz.prog 102 #[.agg #[.int .i64 s, .int .i64 g]] w fun e w' => e = .returned (.bool (Km.isC s g)) ∧ Below w.heap.size w w' := by
  have hE : Hid (∀ b, (b = true ↔ 0 ≤ s ∧ s ≤ 1000 ∧ 0 ≤ g ∧ g ≤ 1000) → b = Km.isC s g) := fun b h => by
    unfold Km.isC
    cases b
    · exact (decide_eq_false (fun k => by simpa using h.2 k)).symm
    · exact (decide_eq_true (h.1 rfl)).symm
  generalize Km.isC s g = R at *
  go_enter Tryz.func102, Tryz.ntmps102
  go_wp2
  all_goals
    go_ret
    exact ⟨ret_b (hE.out _ (by simp; omega)), (Below.refl _ _).alloc (Nat.le_refl _) _⟩
set_option maxRecDepth 100000 in
set_option maxHeartbeats 2000000 in
theorem rsent_any (s g : Int) (ok : Bool) (w : World) : Calls Tryz.prog 71 #[.agg #[.int .i64 s, .int .i64 g], .bool ok] w fun e w' => e = .returned (.agg #[.int .i64 (Km.sentS s g ok), .int .i64 g]) ∧ Below w.heap.size w w' := by
  have HI : Hid (∀ w, Calls Tryz.prog 102 #[.agg #[.int .i64 s, .int .i64 g]] w fun e w' => e = .returned (.bool (Km.isC s g)) ∧ Below w.heap.size w w') := fun w => ris_any s g w
  cases hi : Km.isC s g
  · have HS : Hid (Km.sentS s g ok = s) := by show _ = _; unfold Km.sentS; rw [hi]; rfl
    rw [hi] at HI
    generalize Km.sentS s g ok = R at *
    clear hi
    go_enter Tryz.func71, Tryz.ntmps71
    go_wp2_with fail
    refine (HI.out _).mono ?_
    rintro e w1 ⟨rfl, hb1⟩
    have L0 : Hid (LiesC w1 w.heap.size s g) := (LiesC.old2 w s g _).on hb1
    have L1 : Hid (LiesC w1 (w.heap.size + 1) 0 0) := (LiesC.new2 w _ 0 0).on hb1
    have hb2 : Hid (Below w.heap.size w w1) := below_joinC (((Below.refl _ _).alloc (Nat.le_refl _) _).alloc (by simp) _) hb1
    have a0 := L0.out.c0
    have a1 := L0.out.c1
    have a2 := L0.out.f0
    have a3 := L0.out.f1
    have b0 := L1.out.c0
    have b1 := L1.out.c1
    have b2 := L1.out.f0
    have b3 := L1.out.f1
    clear hb1 HI
    go_wp2
    all_goals exact bodyPost_ret (v := .agg #[.int .i64 s, .int .i64 g]) (by simp [results, Tryz.results71, go_sem, b0, b1]; try omega) rfl ⟨by rw [HS.out], (hb2.out.setCell (Nat.le_succ _) _).setCell (Nat.le_succ _) _⟩
  · obtain ⟨h1, h2, h3, h4⟩ := Km.isC_parts hi
    cases ok
    · have HS : Hid (Km.sentS s g false = min 1000 (s + 8)) := by show _ = _; unfold Km.sentS; rw [hi]; rfl
      rw [hi] at HI
      generalize Km.sentS s g false = R at *
      clear hi
      go_enter Tryz.func71, Tryz.ntmps71
      go_wp2_with fail
      refine (HI.out _).mono ?_
      rintro e w1 ⟨rfl, hb1⟩
      have L0 : Hid (LiesC w1 w.heap.size s g) := (LiesC.old2 w s g _).on hb1
      have L1 : Hid (LiesC w1 (w.heap.size + 1) 0 0) := (LiesC.new2 w _ 0 0).on hb1
      have hb2 : Hid (Below w.heap.size w w1) := below_joinC (((Below.refl _ _).alloc (Nat.le_refl _) _).alloc (by simp) _) hb1
      have a0 := L0.out.c0
      have a1 := L0.out.c1
      have a2 := L0.out.f0
      have a3 := L0.out.f1
      have b0 := L1.out.c0
      have b1 := L1.out.c1
      have b2 := L1.out.f0
      have b3 := L1.out.f1
      clear hb1 HI
      go_wp2
      all_goals exact bodyPost_ret (v := .agg #[.int .i64 (min 1000 (s + 8)), .int .i64 g]) (by simp [results, Tryz.results71, go_sem, b0, b1]; try omega) rfl ⟨by rw [HS.out], ((hb2.out.setCell (Nat.le_refl _) _).setCell (Nat.le_succ _) _).setCell (Nat.le_succ _) _⟩
    · have HS : Hid (Km.sentS s g true = max 0 (s - 1)) := by show _ = _; unfold Km.sentS; rw [hi]; rfl
      rw [hi] at HI
      generalize Km.sentS s g true = R at *
      clear hi
      go_enter Tryz.func71, Tryz.ntmps71
      go_wp2_with fail
      refine (HI.out _).mono ?_
      rintro e w1 ⟨rfl, hb1⟩
      have L0 : Hid (LiesC w1 w.heap.size s g) := (LiesC.old2 w s g _).on hb1
      have L1 : Hid (LiesC w1 (w.heap.size + 1) 0 0) := (LiesC.new2 w _ 0 0).on hb1
      have hb2 : Hid (Below w.heap.size w w1) := below_joinC (((Below.refl _ _).alloc (Nat.le_refl _) _).alloc (by simp) _) hb1
      have a0 := L0.out.c0
      have a1 := L0.out.c1
      have a2 := L0.out.f0
      have a3 := L0.out.f1
      have b0 := L1.out.c0
      have b1 := L1.out.c1
      have b2 := L1.out.f0
      have b3 := L1.out.f1
      clear hb1 HI
      go_wp2
      all_goals exact bodyPost_ret (v := .agg #[.int .i64 (max 0 (s - 1)), .int .i64 g]) (by simp [results, Tryz.results71, go_sem, b0, b1]; try omega) rfl ⟨by rw [HS.out], ((hb2.out.setCell (Nat.le_refl _) _).setCell (Nat.le_succ _) _).setCell (Nat.le_succ _) _⟩
set_option maxRecDepth 100000 in
set_option maxHeartbeats 2000000 in
theorem rgot_any (s g : Int) (ok : Bool) (w : World) : Calls Tryz.prog 75 #[.agg #[.int .i64 s, .int .i64 g], .bool ok] w fun e w' => e = .returned (.agg #[.int .i64 s, .int .i64 (Km.gotG s g ok)]) ∧ Below w.heap.size w w' := by
  have HI : Hid (∀ w, Calls Tryz.prog 102 #[.agg #[.int .i64 s, .int .i64 g]] w fun e w' => e = .returned (.bool (Km.isC s g)) ∧ Below w.heap.size w w') := fun w => ris_any s g w
  cases hi : Km.isC s g
  · have HS : Hid (Km.gotG s g ok = g) := by show _ = _; unfold Km.gotG; rw [hi]; rfl
    rw [hi] at HI
    generalize Km.gotG s g ok = R at *
    clear hi
    go_enter Tryz.func75, Tryz.ntmps75
    go_wp2_with fail
    refine (HI.out _).mono ?_
    rintro e w1 ⟨rfl, hb1⟩
    have L0 : Hid (LiesC w1 w.heap.size s g) := (LiesC.old2 w s g _).on hb1
    have L1 : Hid (LiesC w1 (w.heap.size + 1) 0 0) := (LiesC.new2 w _ 0 0).on hb1
    have hb2 : Hid (Below w.heap.size w w1) := below_joinC (((Below.refl _ _).alloc (Nat.le_refl _) _).alloc (by simp) _) hb1
    have a0 := L0.out.c0
    have a1 := L0.out.c1
    have a2 := L0.out.f0
    have a3 := L0.out.f1
    have b0 := L1.out.c0
    have b1 := L1.out.c1
    have b2 := L1.out.f0
    have b3 := L1.out.f1
    clear hb1 HI
    go_wp2
    all_goals exact bodyPost_ret (v := .agg #[.int .i64 s, .int .i64 g]) (by simp [results, Tryz.results75, go_sem, b0, b1]; try omega) rfl ⟨by rw [HS.out], (hb2.out.setCell (Nat.le_succ _) _).setCell (Nat.le_succ _) _⟩
  · obtain ⟨h1, h2, h3, h4⟩ := Km.isC_parts hi
    cases ok
    · have HS : Hid (Km.gotG s g false = min 1000 (g + 1)) := by show _ = _; unfold Km.gotG; rw [hi]; rfl
      rw [hi] at HI
      generalize Km.gotG s g false = R at *
      clear hi
      go_enter Tryz.func75, Tryz.ntmps75
      go_wp2_with fail
      refine (HI.out _).mono ?_
      rintro e w1 ⟨rfl, hb1⟩
      have L0 : Hid (LiesC w1 w.heap.size s g) := (LiesC.old2 w s g _).on hb1
      have L1 : Hid (LiesC w1 (w.heap.size + 1) 0 0) := (LiesC.new2 w _ 0 0).on hb1
      have hb2 : Hid (Below w.heap.size w w1) := below_joinC (((Below.refl _ _).alloc (Nat.le_refl _) _).alloc (by simp) _) hb1
      have a0 := L0.out.c0
      have a1 := L0.out.c1
      have a2 := L0.out.f0
      have a3 := L0.out.f1
      have b0 := L1.out.c0
      have b1 := L1.out.c1
      have b2 := L1.out.f0
      have b3 := L1.out.f1
      clear hb1 HI
      go_wp2
      all_goals exact bodyPost_ret (v := .agg #[.int .i64 s, .int .i64 (min 1000 (g + 1))]) (by simp [results, Tryz.results75, go_sem, b0, b1]; try omega) rfl ⟨by rw [HS.out], ((hb2.out.setCell (Nat.le_refl _) _).setCell (Nat.le_succ _) _).setCell (Nat.le_succ _) _⟩
    · by_cases hg : 127 < g
      · have HS : Hid (Km.gotG s g true = 120) := by show _ = _; unfold Km.gotG Km.gotV; rw [hi, if_pos rfl, if_pos rfl, if_pos hg]
        rw [hi] at HI
        generalize Km.gotG s g true = R at *
        clear hi
        go_enter Tryz.func75, Tryz.ntmps75
        go_wp2_with fail
        refine (HI.out _).mono ?_
        rintro e w1 ⟨rfl, hb1⟩
        have L0 : Hid (LiesC w1 w.heap.size s g) := (LiesC.old2 w s g _).on hb1
        have L1 : Hid (LiesC w1 (w.heap.size + 1) 0 0) := (LiesC.new2 w _ 0 0).on hb1
        have hb2 : Hid (Below w.heap.size w w1) := below_joinC (((Below.refl _ _).alloc (Nat.le_refl _) _).alloc (by simp) _) hb1
        have a0 := L0.out.c0
        have a1 := L0.out.c1
        have a2 := L0.out.f0
        have a3 := L0.out.f1
        have b0 := L1.out.c0
        have b1 := L1.out.c1
        have b2 := L1.out.f0
        have b3 := L1.out.f1
        clear hb1 HI
        go_wp2
        all_goals exact bodyPost_ret (v := .agg #[.int .i64 s, .int .i64 120]) (by simp [results, Tryz.results75, go_sem, b0, b1]; try omega) rfl ⟨by rw [HS.out], ((hb2.out.setCell (Nat.le_refl _) _).setCell (Nat.le_succ _) _).setCell (Nat.le_succ _) _⟩
      · have HS : Hid (Km.gotG s g true = max 0 (g - 1)) := by show _ = _; unfold Km.gotG Km.gotV; rw [hi, if_pos rfl, if_pos rfl, if_neg hg]
        rw [hi] at HI
        generalize Km.gotG s g true = R at *
        clear hi
        go_enter Tryz.func75, Tryz.ntmps75
        go_wp2_with fail
        refine (HI.out _).mono ?_
        rintro e w1 ⟨rfl, hb1⟩
        have L0 : Hid (LiesC w1 w.heap.size s g) := (LiesC.old2 w s g _).on hb1
        have L1 : Hid (LiesC w1 (w.heap.size + 1) 0 0) := (LiesC.new2 w _ 0 0).on hb1
        have hb2 : Hid (Below w.heap.size w w1) := below_joinC (((Below.refl _ _).alloc (Nat.le_refl _) _).alloc (by simp) _) hb1
        have a0 := L0.out.c0
        have a1 := L0.out.c1
        have a2 := L0.out.f0
        have a3 := L0.out.f1
        have b0 := L1.out.c0
        have b1 := L1.out.c1
        have b2 := L1.out.f0
        have b3 := L1.out.f1
        clear hb1 HI
        go_wp2
        all_goals exact bodyPost_ret (v := .agg #[.int .i64 s, .int .i64 (max 0 (g - 1))]) (by simp [results, Tryz.results75, go_sem, b0, b1]; try omega) rfl ⟨by rw [HS.out], ((hb2.out.setCell (Nat.le_refl _) _).setCell (Nat.le_succ _) _).setCell (Nat.le_succ _) _⟩
set_option maxHeartbeats 1000000 in
theorem roff_any (s g : Int) (w : World) : Calls Tryz.prog 66 #[.agg #[.int .i64 s, .int .i64 g]] w fun e w' => e = .returned (.bool (Km.offC s)) ∧ Below w.heap.size w w' := by
  unfold Km.offC
  go_enter Tryz.func66, Tryz.ntmps66
  go_wp2
  go_ret
  exact ⟨rfl, (Below.refl _ _).alloc (Nat.le_refl _) _⟩
set_option maxHeartbeats 1000000 in
theorem rpas_any (s g : Int) (w : World) : Calls Tryz.prog 44 #[.agg #[.int .i64 s, .int .i64 g]] w fun e w' => e = .returned (.bool (Km.pasC s g)) ∧ Below w.heap.size w w' := by
  have HO : Hid (∀ w, Calls Tryz.prog 66 #[.agg #[.int .i64 s, .int .i64 g]] w fun e w' => e = .returned (.bool (Km.offC s)) ∧ Below w.heap.size w w') := fun w => roff_any s g w
  have HP : Hid (Km.pasC s g = (!Km.offC s && (decide (128 ≤ s) || decide (128 ≤ g)))) := rfl
  generalize Km.pasC s g = R at *
  generalize Km.offC s = O at *
  go_enter Tryz.func44, Tryz.ntmps44
  go_wp2_with fail
  refine (HO.out _).mono ?_
  rintro e w1 ⟨rfl, hb1⟩
  have L0 : Hid (LiesC w1 w.heap.size s g) := (LiesC.new w s g).on hb1
  have hb2 : Hid (Below w.heap.size w w1) := below_joinC ((Below.refl _ _).alloc (Nat.le_refl _) _) hb1
  have a0 := L0.out.c0
  have a1 := L0.out.c1
  clear hb1 HO
  cases O
  all_goals go_wp2
  all_goals
    go_ret
    exact ⟨ret_b (by rw [HP.out]; simp [*]), hb2.out⟩
end Go.Proofs.YthkaekpoicodeaaGreatDoor
