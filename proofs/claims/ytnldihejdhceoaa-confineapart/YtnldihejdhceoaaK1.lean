/- What the document's own counters answer, over their text. -/
import Derived.Test.YtnldihejdhceoaaKm
import Derived.WalkKit
import Derived.WalkSpells
import Derived.WalkLawsBesides
import Derived.Handy
import Derived.Below
namespace Go.Proofs.Ytnldihejdhceoaa
open Go.RowKit
theorem ret_b {a b : Bool} (h : a = b) : Ending.returned (.bool a) = .returned (.bool b) := by rw [h]
set_option maxHeartbeats 1000000 in
theorem ris_any (s g : Int) (w : World) : Calls Try.prog 18 #[.agg #[.int .i64 s, .int .i64 g]] w fun e w' => e = .returned (.bool (Km.isC s g)) ∧ Below w.heap.size w w' := by
  have hE : Hid (∀ b, (b = true ↔ 0 ≤ s ∧ s ≤ 1000 ∧ 0 ≤ g ∧ g ≤ 1000) → b = Km.isC s g) := fun b h => by
    unfold Km.isC
    cases b
    · exact (decide_eq_false (fun k => by simpa using h.2 k)).symm
    · exact (decide_eq_true (h.1 rfl)).symm
  generalize Km.isC s g = R at *
  go_enter Try.func18, Try.ntmps18
  go_wp2
  all_goals
    go_ret
    exact ⟨ret_b (hE.out _ (by simp; omega)), (Below.refl _ _).alloc (Nat.le_refl _) _⟩
/-- Counters lie in a block. -/
def LiesC (w : World) (b : Nat) (s g : Int) : Prop := w.heap[b]? = some (.cells #[.int .i64 s, .int .i64 g] 23 (0, 0))
theorem LiesC.on {w w' : World} {b : Nat} {s g : Int} (h : LiesC w b s g) (hb : Below w.heap.size w w') : LiesC w' b s g := (hb.block b (Array.getElem?_eq_some_iff.1 h).1).trans h
theorem LiesC.alloc {w : World} {b : Nat} {s g : Int} (h : LiesC w b s g) (o : Obj) : LiesC (w.alloc o) b s g := h.on ((Below.refl _ _).alloc (Nat.le_refl _) _)
theorem LiesC.lt {w : World} {b : Nat} {s g : Int} (h : LiesC w b s g) : b < w.heap.size := (Array.getElem?_eq_some_iff.1 h).1
theorem LiesC.new (w : World) (s g : Int) : LiesC (w.alloc (.cells #[.int .i64 s, .int .i64 g] 23)) w.heap.size s g := heap_alloc_new _ _
theorem LiesC.c0 {w : World} {b : Nat} {s g : Int} (h : LiesC w b s g) : w.cell? ⟨b, 0, none⟩ = some (.int .i64 s) := by rw [cell_of_row _ _ _ _ _ _ h]; rfl
theorem LiesC.c1 {w : World} {b : Nat} {s g : Int} (h : LiesC w b s g) : w.cell? ⟨b, 1, none⟩ = some (.int .i64 g) := by rw [cell_of_row _ _ _ _ _ _ h]; rfl
theorem LiesC.f0 {w : World} {b : Nat} {s g : Int} (h : LiesC w b s g) : w.frozen? ⟨b, 0, none⟩ = false := frozen_of_row _ _ 0 _ _ h
theorem LiesC.f1 {w : World} {b : Nat} {s g : Int} (h : LiesC w b s g) : w.frozen? ⟨b, 1, none⟩ = false := frozen_of_row _ _ 1 _ _ h
theorem below_joinC {a b c : World} (h : Below a.heap.size a b) (h2 : Below b.heap.size b c) : Below a.heap.size a c := h.trans (h2.mono h.size)
theorem LiesC.old2 (w : World) (s g : Int) (o : Obj) : LiesC ((w.alloc (.cells #[.int .i64 s, .int .i64 g] 23)).alloc o) w.heap.size s g := (LiesC.new w s g).alloc o
theorem LiesC.new2 (w : World) (o : Obj) (s g : Int) : LiesC ((w.alloc o).alloc (.cells #[.int .i64 s, .int .i64 g] 23)) (w.heap.size + 1) s g := heap_alloc2_new _ _ _
set_option maxRecDepth 100000 in
set_option maxHeartbeats 2000000 in
theorem rsent_any (s g : Int) (ok : Bool) (w : World) : Calls Try.prog 10 #[.agg #[.int .i64 s, .int .i64 g], .bool ok] w fun e w' => e = .returned (.agg #[.int .i64 (Km.sentS s g ok), .int .i64 g]) ∧ Below w.heap.size w w' := by
  have HI : Hid (∀ w, Calls Try.prog 18 #[.agg #[.int .i64 s, .int .i64 g]] w fun e w' => e = .returned (.bool (Km.isC s g)) ∧ Below w.heap.size w w') := fun w => ris_any s g w
  cases hi : Km.isC s g
  · have HS : Hid (Km.sentS s g ok = s) := by show _ = _; unfold Km.sentS; rw [hi]; rfl
    rw [hi] at HI
    generalize Km.sentS s g ok = R at *
    clear hi
    go_enter Try.func10, Try.ntmps10
    go_wp2_with fail
    refine (HI.out _).mono ?_
    rintro e w1 ⟨rfl, hb1⟩
    have L0 : Hid (LiesC w1 w.heap.size s g) := (LiesC.old2 w s g _).on hb1
    have L1 : Hid (LiesC w1 (w.heap.size + 1) 0 0) := (LiesC.new2 w _ 0 0).on hb1
    have hb2 : Hid (Below w.heap.size w w1) := below_joinC (((Below.refl _ _).alloc (Nat.le_refl _) _).alloc (by simp) _) hb1
    have a0 := L0.out.c0
    have a1 := L0.out.c1
    have a2 := L0.out.f0
    have a3 := L0.out.f1
    have b0 := L1.out.c0
    have b1 := L1.out.c1
    have b2 := L1.out.f0
    have b3 := L1.out.f1
    clear hb1 HI
    go_wp2
    all_goals exact bodyPost_ret (v := .agg #[.int .i64 s, .int .i64 g]) (by simp [results, Try.results10, go_sem, b0, b1]; try omega) rfl ⟨by rw [HS.out], (hb2.out.setCell (Nat.le_succ _) _).setCell (Nat.le_succ _) _⟩
  · obtain ⟨h1, h2, h3, h4⟩ := Km.isC_parts hi
    cases ok
    · have HS : Hid (Km.sentS s g false = min 1000 (s + 8)) := by show _ = _; unfold Km.sentS; rw [hi]; rfl
      rw [hi] at HI
      generalize Km.sentS s g false = R at *
      clear hi
      go_enter Try.func10, Try.ntmps10
      go_wp2_with fail
      refine (HI.out _).mono ?_
      rintro e w1 ⟨rfl, hb1⟩
      have L0 : Hid (LiesC w1 w.heap.size s g) := (LiesC.old2 w s g _).on hb1
      have L1 : Hid (LiesC w1 (w.heap.size + 1) 0 0) := (LiesC.new2 w _ 0 0).on hb1
      have hb2 : Hid (Below w.heap.size w w1) := below_joinC (((Below.refl _ _).alloc (Nat.le_refl _) _).alloc (by simp) _) hb1
      have a0 := L0.out.c0
      have a1 := L0.out.c1
      have a2 := L0.out.f0
      have a3 := L0.out.f1
      have b0 := L1.out.c0
      have b1 := L1.out.c1
      have b2 := L1.out.f0
      have b3 := L1.out.f1
      clear hb1 HI
      go_wp2
      all_goals exact bodyPost_ret (v := .agg #[.int .i64 (min 1000 (s + 8)), .int .i64 g]) (by simp [results, Try.results10, go_sem, b0, b1]; try omega) rfl ⟨by rw [HS.out], ((hb2.out.setCell (Nat.le_refl _) _).setCell (Nat.le_succ _) _).setCell (Nat.le_succ _) _⟩
    · have HS : Hid (Km.sentS s g true = max 0 (s - 1)) := by show _ = _; unfold Km.sentS; rw [hi]; rfl
      rw [hi] at HI
      generalize Km.sentS s g true = R at *
      clear hi
      go_enter Try.func10, Try.ntmps10
      go_wp2_with fail
      refine (HI.out _).mono ?_
      rintro e w1 ⟨rfl, hb1⟩
      have L0 : Hid (LiesC w1 w.heap.size s g) := (LiesC.old2 w s g _).on hb1
      have L1 : Hid (LiesC w1 (w.heap.size + 1) 0 0) := (LiesC.new2 w _ 0 0).on hb1
      have hb2 : Hid (Below w.heap.size w w1) := below_joinC (((Below.refl _ _).alloc (Nat.le_refl _) _).alloc (by simp) _) hb1
      have a0 := L0.out.c0
      have a1 := L0.out.c1
      have a2 := L0.out.f0
      have a3 := L0.out.f1
      have b0 := L1.out.c0
      have b1 := L1.out.c1
      have b2 := L1.out.f0
      have b3 := L1.out.f1
      clear hb1 HI
      go_wp2
      all_goals exact bodyPost_ret (v := .agg #[.int .i64 (max 0 (s - 1)), .int .i64 g]) (by simp [results, Try.results10, go_sem, b0, b1]; try omega) rfl ⟨by rw [HS.out], ((hb2.out.setCell (Nat.le_refl _) _).setCell (Nat.le_succ _) _).setCell (Nat.le_succ _) _⟩
set_option maxRecDepth 100000 in
set_option maxHeartbeats 2000000 in
theorem rgot_any (s g : Int) (ok : Bool) (w : World) : Calls Try.prog 12 #[.agg #[.int .i64 s, .int .i64 g], .bool ok] w fun e w' => e = .returned (.agg #[.int .i64 s, .int .i64 (Km.gotG s g ok)]) ∧ Below w.heap.size w w' := by
  have HI : Hid (∀ w, Calls Try.prog 18 #[.agg #[.int .i64 s, .int .i64 g]] w fun e w' => e = .returned (.bool (Km.isC s g)) ∧ Below w.heap.size w w') := fun w => ris_any s g w
  cases hi : Km.isC s g
  · have HS : Hid (Km.gotG s g ok = g) := by show _ = _; unfold Km.gotG; rw [hi]; rfl
    rw [hi] at HI
    generalize Km.gotG s g ok = R at *
    clear hi
    go_enter Try.func12, Try.ntmps12
    go_wp2_with fail
    refine (HI.out _).mono ?_
    rintro e w1 ⟨rfl, hb1⟩
    have L0 : Hid (LiesC w1 w.heap.size s g) := (LiesC.old2 w s g _).on hb1
    have L1 : Hid (LiesC w1 (w.heap.size + 1) 0 0) := (LiesC.new2 w _ 0 0).on hb1
    have hb2 : Hid (Below w.heap.size w w1) := below_joinC (((Below.refl _ _).alloc (Nat.le_refl _) _).alloc (by simp) _) hb1
    have a0 := L0.out.c0
    have a1 := L0.out.c1
    have a2 := L0.out.f0
    have a3 := L0.out.f1
    have b0 := L1.out.c0
    have b1 := L1.out.c1
    have b2 := L1.out.f0
    have b3 := L1.out.f1
    clear hb1 HI
    go_wp2
    all_goals exact bodyPost_ret (v := .agg #[.int .i64 s, .int .i64 g]) (by simp [results, Try.results12, go_sem, b0, b1]; try omega) rfl ⟨by rw [HS.out], (hb2.out.setCell (Nat.le_succ _) _).setCell (Nat.le_succ _) _⟩
  · obtain ⟨h1, h2, h3, h4⟩ := Km.isC_parts hi
    cases ok
    · have HS : Hid (Km.gotG s g false = min 1000 (g + 1)) := by show _ = _; unfold Km.gotG; rw [hi]; rfl
      rw [hi] at HI
      generalize Km.gotG s g false = R at *
      clear hi
      go_enter Try.func12, Try.ntmps12
      go_wp2_with fail
      refine (HI.out _).mono ?_
      rintro e w1 ⟨rfl, hb1⟩
      have L0 : Hid (LiesC w1 w.heap.size s g) := (LiesC.old2 w s g _).on hb1
      have L1 : Hid (LiesC w1 (w.heap.size + 1) 0 0) := (LiesC.new2 w _ 0 0).on hb1
      have hb2 : Hid (Below w.heap.size w w1) := below_joinC (((Below.refl _ _).alloc (Nat.le_refl _) _).alloc (by simp) _) hb1
      have a0 := L0.out.c0
      have a1 := L0.out.c1
      have a2 := L0.out.f0
      have a3 := L0.out.f1
      have b0 := L1.out.c0
      have b1 := L1.out.c1
      have b2 := L1.out.f0
      have b3 := L1.out.f1
      clear hb1 HI
      go_wp2
      all_goals exact bodyPost_ret (v := .agg #[.int .i64 s, .int .i64 (min 1000 (g + 1))]) (by simp [results, Try.results12, go_sem, b0, b1]; try omega) rfl ⟨by rw [HS.out], ((hb2.out.setCell (Nat.le_refl _) _).setCell (Nat.le_succ _) _).setCell (Nat.le_succ _) _⟩
    · by_cases hg : 127 < g
      · have HS : Hid (Km.gotG s g true = 120) := by show _ = _; unfold Km.gotG Km.gotV; rw [hi, if_pos rfl, if_pos rfl, if_pos hg]
        rw [hi] at HI
        generalize Km.gotG s g true = R at *
        clear hi
        go_enter Try.func12, Try.ntmps12
        go_wp2_with fail
        refine (HI.out _).mono ?_
        rintro e w1 ⟨rfl, hb1⟩
        have L0 : Hid (LiesC w1 w.heap.size s g) := (LiesC.old2 w s g _).on hb1
        have L1 : Hid (LiesC w1 (w.heap.size + 1) 0 0) := (LiesC.new2 w _ 0 0).on hb1
        have hb2 : Hid (Below w.heap.size w w1) := below_joinC (((Below.refl _ _).alloc (Nat.le_refl _) _).alloc (by simp) _) hb1
        have a0 := L0.out.c0
        have a1 := L0.out.c1
        have a2 := L0.out.f0
        have a3 := L0.out.f1
        have b0 := L1.out.c0
        have b1 := L1.out.c1
        have b2 := L1.out.f0
        have b3 := L1.out.f1
        clear hb1 HI
        go_wp2
        all_goals exact bodyPost_ret (v := .agg #[.int .i64 s, .int .i64 120]) (by simp [results, Try.results12, go_sem, b0, b1]; try omega) rfl ⟨by rw [HS.out], ((hb2.out.setCell (Nat.le_refl _) _).setCell (Nat.le_succ _) _).setCell (Nat.le_succ _) _⟩
      · have HS : Hid (Km.gotG s g true = max 0 (g - 1)) := by show _ = _; unfold Km.gotG Km.gotV; rw [hi, if_pos rfl, if_pos rfl, if_neg hg]
        rw [hi] at HI
        generalize Km.gotG s g true = R at *
        clear hi
        go_enter Try.func12, Try.ntmps12
        go_wp2_with fail
        refine (HI.out _).mono ?_
        rintro e w1 ⟨rfl, hb1⟩
        have L0 : Hid (LiesC w1 w.heap.size s g) := (LiesC.old2 w s g _).on hb1
        have L1 : Hid (LiesC w1 (w.heap.size + 1) 0 0) := (LiesC.new2 w _ 0 0).on hb1
        have hb2 : Hid (Below w.heap.size w w1) := below_joinC (((Below.refl _ _).alloc (Nat.le_refl _) _).alloc (by simp) _) hb1
        have a0 := L0.out.c0
        have a1 := L0.out.c1
        have a2 := L0.out.f0
        have a3 := L0.out.f1
        have b0 := L1.out.c0
        have b1 := L1.out.c1
        have b2 := L1.out.f0
        have b3 := L1.out.f1
        clear hb1 HI
        go_wp2
        all_goals exact bodyPost_ret (v := .agg #[.int .i64 s, .int .i64 (max 0 (g - 1))]) (by simp [results, Try.results12, go_sem, b0, b1]; try omega) rfl ⟨by rw [HS.out], ((hb2.out.setCell (Nat.le_refl _) _).setCell (Nat.le_succ _) _).setCell (Nat.le_succ _) _⟩
set_option maxHeartbeats 1000000 in
theorem roff_any (s g : Int) (w : World) : Calls Try.prog 14 #[.agg #[.int .i64 s, .int .i64 g]] w fun e w' => e = .returned (.bool (Km.offC s)) ∧ Below w.heap.size w w' := by
  unfold Km.offC
  go_enter Try.func14, Try.ntmps14
  go_wp2
  go_ret
  exact ⟨rfl, (Below.refl _ _).alloc (Nat.le_refl _) _⟩
set_option maxHeartbeats 1000000 in
theorem rpas_any (s g : Int) (w : World) : Calls Try.prog 16 #[.agg #[.int .i64 s, .int .i64 g]] w fun e w' => e = .returned (.bool (Km.pasC s g)) ∧ Below w.heap.size w w' := by
  have HO : Hid (∀ w, Calls Try.prog 14 #[.agg #[.int .i64 s, .int .i64 g]] w fun e w' => e = .returned (.bool (Km.offC s)) ∧ Below w.heap.size w w') := fun w => roff_any s g w
  have HP : Hid (Km.pasC s g = (!Km.offC s && (decide (128 ≤ s) || decide (128 ≤ g)))) := rfl
  generalize Km.pasC s g = R at *
  generalize Km.offC s = O at *
  go_enter Try.func16, Try.ntmps16
  go_wp2_with fail
  refine (HO.out _).mono ?_
  rintro e w1 ⟨rfl, hb1⟩
  have L0 : Hid (LiesC w1 w.heap.size s g) := (LiesC.new w s g).on hb1
  have hb2 : Hid (Below w.heap.size w w1) := below_joinC ((Below.refl _ _).alloc (Nat.le_refl _) _) hb1
  have a0 := L0.out.c0
  have a1 := L0.out.c1
  clear hb1 HO
  cases O
  all_goals go_wp2
  all_goals
    go_ret
    exact ⟨ret_b (by rw [HP.out]; simp [*]), hb2.out⟩
end Go.Proofs.Ytnldihejdhceoaa
