/- Package matrix, over the landed code: what its small tests answer. -/
import Derived.Test.YtnbfnipdiffphaaDoorBe
import Derived.Test.YtnbfnipdiffphaaDoorMo
import Derived.Test.YtnbfnipdiffphaaDoorU2
import Derived.WalkArith
namespace Go.Proofs.YtnbfnipdiffphaaDoor
open Go.RowKit Go.WideShapes
set_option linter.unusedVariables false
namespace Bk
def count (n : Int) : Bool := n == 1 || n == 2 || n == 4 || n == 8
def hd (m : Mx.M) : Bool := Mx.within m.level 1 2 && Mx.within m.nodes 1 8 && count m.cycles && Mx.within m.length 1 4000 && Mx.within m.enable 1 16 && Mx.within m.unit 1 64 && Mx.within m.init 0 8000 && (m.ref % 8 == 0) && decide (m.ref < 2048)
def win (m : Mx.M) (x : Mx.Win) : Bool := Mx.within x.kind 1 3 && Mx.within x.start 0 m.length && Mx.within x.fin 0 m.length && decide (x.start < x.fin) && count x.rep && decide (x.rep ≤ m.cycles) && Mx.within x.cycle 0 (x.rep - 1) && Mx.within x.msg 0 99 && (x.msg == 0 || x.kind == 1)
theorem win_eq (m : Mx.M) (x : Mx.Win) : win m x = Mx.winOk m x := by
  unfold win Mx.winOk Mx.power count
  simp only [Bool.and_assoc]
theorem count8 (n : Int) : count n = Mx.power n 8 := by
  unfold count Mx.power
  rw [Bool.eq_iff_iff]
  simp only [Bool.or_eq_true, Bool.and_eq_true, beq_iff_eq, decide_eq_true_eq]
  omega
theorem is_eq (m : Mx.M) : Mx.is m = (hd m && decide (0 < m.masters.length) && (decide (m.masters.length ≤ 4) && m.masters.all (fun x => Mx.within x 0 99)) && (decide (m.messages.length ≤ 12) && m.messages.all Mx.msgOk) && (decide (m.windows.length ≤ 16) && m.windows.all (win m))) := by
  have e : m.windows.all (win m) = m.windows.all (Mx.winOk m) := by congr 1; funext x; exact win_eq m x
  rw [e]
  have f : Mx.within (m.masters.length : Int) 1 4 = (decide (0 < m.masters.length) && decide (m.masters.length ≤ 4)) := by
    unfold Mx.within
    rw [Bool.eq_iff_iff]
    simp only [Bool.and_eq_true, decide_eq_true_eq]
    omega
  unfold Mx.is Mx.scal Mx.lens hd
  rw [count8, f]
  generalize Mx.within m.level 1 2 = a1
  generalize Mx.within m.nodes 1 8 = a2
  generalize Mx.power m.cycles 8 = a3
  generalize Mx.within m.length 1 4000 = a4
  generalize Mx.within m.enable 1 16 = a5
  generalize Mx.within m.unit 1 64 = a6
  generalize Mx.within m.init 0 8000 = a7
  generalize (m.ref % 8 == 0) = a8
  generalize decide (m.ref < 2048) = a9
  generalize decide (0 < m.masters.length) = a10
  generalize decide (m.masters.length ≤ 4) = a11
  generalize decide (m.messages.length ≤ 12) = a12
  generalize decide (m.windows.length ≤ 16) = a13
  generalize m.masters.all _ = b1
  generalize m.messages.all _ = b2
  generalize m.windows.all _ = b3
  rw [Bool.eq_iff_iff]
  simp only [Bool.and_eq_true]
  constructor
  · rintro ⟨⟨⟨⟨⟨⟨⟨⟨⟨⟨h1, h2⟩, h3⟩, h4⟩, h5⟩, h6⟩, h7⟩, ⟨⟨⟨h9, h8⟩, ⟨h10, h11⟩⟩, h12⟩, h13⟩, g1⟩, g2⟩, g3⟩
    exact ⟨⟨⟨⟨⟨⟨⟨⟨⟨⟨⟨⟨h1, h2⟩, h3⟩, h4⟩, h5⟩, h6⟩, h7⟩, h8⟩, h9⟩, h10⟩, h11, g1⟩, h12, g2⟩, h13, g3⟩
  · rintro ⟨⟨⟨⟨⟨⟨⟨⟨⟨⟨⟨⟨h1, h2⟩, h3⟩, h4⟩, h5⟩, h6⟩, h7⟩, h8⟩, h9⟩, h10⟩, h11, g1⟩, h12, g2⟩, h13, g3⟩
    exact ⟨⟨⟨⟨⟨⟨⟨⟨⟨⟨h1, h2⟩, h3⟩, h4⟩, h5⟩, h6⟩, h7⟩, ⟨⟨⟨h9, h8⟩, ⟨h10, h11⟩⟩, h12⟩, h13⟩, g1⟩, g2⟩, g3⟩
theorem count_b {n : Int} (h : count n = true) : -9223372036854775808 < n ∧ n ≤ 9223372036854775807 := by
  simp only [count, Bool.or_eq_true, beq_iff_eq] at h
  omega
def hCs (m : Mx.M) : Array Value := #[.int .i64 m.level, .int .i64 m.nodes, .int .i64 m.cycles, .int .i64 m.length, .int .i64 m.enable, .int .i64 m.unit, .int .i64 m.init, .int .u32 (m.ref : Int)]
def wCs (x : Mx.Win) : Array Value := #[.int .i64 x.kind, .int .i64 x.start, .int .i64 x.fin, .int .i64 x.cycle, .int .i64 x.rep, .int .i64 x.msg]
def gCs (x : Mx.Msg) : Array Value := #[.int .u32 (x.id : Int), .int .i64 x.owner, .bool x.event]
theorem hCells {w : World} {p : Nat} {m : Mx.M} (h : RowT 78 w p (hCs m)) : w.cell? ⟨p, 0, none⟩ = some (.int .i64 m.level) ∧ w.cell? ⟨p, 1, none⟩ = some (.int .i64 m.nodes) ∧ w.cell? ⟨p, 2, none⟩ = some (.int .i64 m.cycles) ∧ w.cell? ⟨p, 3, none⟩ = some (.int .i64 m.length) ∧ w.cell? ⟨p, 4, none⟩ = some (.int .i64 m.enable) ∧ w.cell? ⟨p, 5, none⟩ = some (.int .i64 m.unit) ∧ w.cell? ⟨p, 6, none⟩ = some (.int .i64 m.init) ∧ w.cell? ⟨p, 7, none⟩ = some (.int .u32 (m.ref : Int)) :=
  ⟨h.c 0 _ rfl, h.c 1 _ rfl, h.c 2 _ rfl, h.c 3 _ rfl, h.c 4 _ rfl, h.c 5 _ rfl, h.c 6 _ rfl, h.c 7 _ rfl⟩
theorem wCells {w : World} {p : Nat} {x : Mx.Win} (h : RowT 58 w p (wCs x)) : w.cell? ⟨p, 0, none⟩ = some (.int .i64 x.kind) ∧ w.cell? ⟨p, 1, none⟩ = some (.int .i64 x.start) ∧ w.cell? ⟨p, 2, none⟩ = some (.int .i64 x.fin) ∧ w.cell? ⟨p, 3, none⟩ = some (.int .i64 x.cycle) ∧ w.cell? ⟨p, 4, none⟩ = some (.int .i64 x.rep) ∧ w.cell? ⟨p, 5, none⟩ = some (.int .i64 x.msg) :=
  ⟨h.c 0 _ rfl, h.c 1 _ rfl, h.c 2 _ rfl, h.c 3 _ rfl, h.c 4 _ rfl, h.c 5 _ rfl⟩
end Bk
set_option maxRecDepth 100000 in
set_option maxHeartbeats 4000000 in
theorem mk_within (w : World) (n lo hi : Int) : Calls Tryd.prog 79 #[.int .i64 n, .int .i64 lo, .int .i64 hi] w fun e w' => e = .returned (.bool (Mx.within n lo hi)) ∧ w' = w := by
  unfold Mx.within
  by_cases h : lo ≤ n
  · rw [decide_eq_true h, Bool.true_and]
    go_enter Tryd.func79, Tryd.ntmps79
    go_wp2
    go_ret
    exact ⟨by simp, rfl⟩
  · rw [decide_eq_false h, Bool.false_and]
    go_enter Tryd.func79, Tryd.ntmps79
    go_wp2
    go_ret
    exact ⟨rfl, rfl⟩
set_option maxRecDepth 100000 in
set_option maxHeartbeats 4000000 in
theorem mk_count (w : World) (n : Int) : Calls Tryd.prog 80 #[.int .i64 n] w fun e w' => e = .returned (.bool (Bk.count n)) ∧ w' = w := by
  unfold Bk.count
  cases h1 : (n == 1) <;> cases h2 : (n == 2) <;> cases h4 : (n == 4) <;> cases h8 : (n == 8)
  all_goals
    go_enter Tryd.func80, Tryd.ntmps80
    go_wp2
    go_ret
    exact ⟨by simp, rfl⟩
set_option maxRecDepth 100000 in
set_option maxHeartbeats 4000000 in
theorem mk_number (w : World) (n : Int) : Calls Tryd.prog 56 #[.int .i64 n] w fun e w' => e = .returned (.bool (Mx.within n 0 99)) ∧ w' = w := by
  have HW : Hid (∀ (w : World) (n lo hi : Int), Calls Tryd.prog 79 #[.int .i64 n, .int .i64 lo, .int .i64 hi] w fun e w' => e = .returned (.bool (Mx.within n lo hi)) ∧ w' = w) := mk_within
  go_enter Tryd.func56, Tryd.ntmps56
  go_wp2_with fail
  refine (HW.out _ _ _ _).mono ?_
  rintro e w1 ⟨rfl, rfl⟩
  go_wp2
  go_ret
  exact ⟨rfl, rfl⟩
theorem id_eq (n : Nat) : ((n : Int) / 2048 == 0) = decide (n < 2048) := by
  rw [Bool.eq_iff_iff, beq_iff_eq, decide_eq_true_eq]
  omega
set_option maxRecDepth 100000 in
set_option maxHeartbeats 4000000 in
theorem mk_id (w : World) (hT : Tab w) (n : Nat) : Calls Tryd.prog 81 #[.int .u32 (n : Int)] w fun e w' => e = .returned (.bool (decide (n < 2048))) ∧ Below w.heap.size w w' := by
  have HI := be_is n ByteArray.empty (by decide) w hT
  rw [id_eq] at HI
  generalize decide (n < 2048) = b at *
  replace HI : Hid (Calls Tryd.prog 83 #[.agg #[.bool false, .int .u32 (n : Int), .bool false, .string ByteArray.empty]] w fun e w' => e = .returned (.bool b) ∧ Below w.heap.size w w') := HI
  go_enter Tryd.func81, Tryd.ntmps81
  go_wp2_with fail
  refine HI.out.mono ?_
  rintro e w1 ⟨rfl, hb⟩
  go_wp2
  go_ret
  exact ⟨rfl, hb⟩
set_option maxRecDepth 100000 in
set_option maxHeartbeats 4000000 in
theorem mk_message (w : World) (hT : Tab w) (x : Mx.Msg) : Calls Tryd.prog 58 #[.agg (Bk.gCs x)] w fun e w' => e = .returned (.bool (Mx.msgOk x)) ∧ Below w.heap.size w w' := by
  have HB : Hid (Below w.heap.size w (w.alloc (.cells (Bk.gCs x) 60))) := (Below.refl _ _).alloc (Nat.le_refl _) _
  have HR : Hid (RowT 60 (w.alloc (.cells (Bk.gCs x) 60)) w.heap.size (Bk.gCs x)) := RowT.new _ _ _
  have HI : Hid (Calls Tryd.prog 81 #[.int .u32 (x.id : Int)] (w.alloc (.cells (Bk.gCs x) 60)) fun e w' => e = .returned (.bool (decide (x.id < 2048))) ∧ Below (w.alloc (.cells (Bk.gCs x) 60)).heap.size (w.alloc (.cells (Bk.gCs x) 60)) w') := mk_id _ (hT.alloc _) x.id
  have HN : Hid (∀ (w : World) (n : Int), Calls Tryd.prog 56 #[.int .i64 n] w fun e w' => e = .returned (.bool (Mx.within n 0 99)) ∧ w' = w) := mk_number
  have c0 : (w.alloc (.cells (Bk.gCs x) 60)).cell? ⟨w.heap.size, 0, none⟩ = some (.int .u32 (x.id : Int)) := HR.out.c 0 _ rfl
  unfold Mx.msgOk
  clear hT
  have HC : Hid (∀ w', Below (w.alloc (.cells (Bk.gCs x) 60)).heap.size (w.alloc (.cells (Bk.gCs x) 60)) w' → w'.cell? ⟨w.heap.size, 1, none⟩ = some (.int .i64 x.owner)) := fun w' hb => (HR.out.on hb).c 1 _ rfl
  generalize Bk.gCs x = cs at HB HI c0 HC HR ⊢
  cases h1 : decide (x.id < 2048)
  · rw [h1] at HI
    go_enter Tryd.func58, Tryd.ntmps58
    go_wp2_with fail
    refine HI.out.mono ?_
    rintro e w1 ⟨rfl, hb⟩
    go_wp2
    go_ret
    exact ⟨rfl, HB.out.trans (hb.mono (by simp))⟩
  · rw [h1] at HI
    go_enter Tryd.func58, Tryd.ntmps58
    go_wp2_with fail
    refine HI.out.mono ?_
    rintro e w1 ⟨rfl, hb⟩
    have c1 : w1.cell? ⟨w.heap.size, 1, none⟩ = some (.int .i64 x.owner) := HC.out w1 hb
    have HB2 : Hid (Below w.heap.size w w1) := HB.out.trans (hb.mono (by simp))
    clear HB HR hb c0 HI
    go_wp2_with fail
    refine (HN.out _ _).mono ?_
    rintro e w2 ⟨rfl, rfl⟩
    go_wp2
    go_ret
    exact ⟨rfl, HB2.out⟩
set_option maxRecDepth 100000 in
set_option maxHeartbeats 4000000 in
theorem mk_head (w : World) (hT : Tab w) (m : Mx.M) : Calls Tryd.prog 54 #[.agg (Bk.hCs m)] w fun e w' => e = .returned (.bool (Bk.hd m)) ∧ Below w.heap.size w w' := by
  have HB : Hid (Below w.heap.size w (w.alloc (.cells (Bk.hCs m) 78))) := (Below.refl _ _).alloc (Nat.le_refl _) _
  have HR : RowT 78 (w.alloc (.cells (Bk.hCs m) 78)) w.heap.size (Bk.hCs m) := RowT.new _ _ _
  obtain ⟨c0, c1, c2, c3, c4, c5, c6, c7⟩ := Bk.hCells HR
  have HI : Hid (Calls Tryd.prog 81 #[.int .u32 (m.ref : Int)] (w.alloc (.cells (Bk.hCs m) 78)) fun e w' => e = .returned (.bool (decide (m.ref < 2048))) ∧ Below (w.alloc (.cells (Bk.hCs m) 78)).heap.size (w.alloc (.cells (Bk.hCs m) 78)) w') := mk_id _ (hT.alloc _) m.ref
  have HW : Hid (∀ (w : World) (n lo hi : Int), Calls Tryd.prog 79 #[.int .i64 n, .int .i64 lo, .int .i64 hi] w fun e w' => e = .returned (.bool (Mx.within n lo hi)) ∧ w' = w) := mk_within
  have HN : Hid (∀ (w : World) (n : Int), Calls Tryd.prog 80 #[.int .i64 n] w fun e w' => e = .returned (.bool (Bk.count n)) ∧ w' = w) := mk_count
  have HM : ((m.ref : Int).tmod 8 == 0) = (m.ref % 8 == 0) := by
    rw [Int.tmod_eq_emod_of_nonneg (by omega), Bool.eq_iff_iff, beq_iff_eq, beq_iff_eq]
    omega
  have HM2 : ((m.ref : Int) % 8 == 0) = (m.ref % 8 == 0) := by
    rw [Bool.eq_iff_iff, beq_iff_eq, beq_iff_eq]
    omega
  unfold Bk.hd
  clear HR hT
  have hsz : (w.alloc (.cells (Bk.hCs m) 78)).heap.size = w.heap.size + 1 := by simp
  have HZ : Hid (w.heap.size ≤ (w.alloc (.cells (Bk.hCs m) 78)).heap.size) := by show _ ≤ _; omega
  clear hsz
  generalize Bk.hCs m = cs at HB HI HZ c0 c1 c2 c3 c4 c5 c6 c7 ⊢
  cases h1 : Mx.within m.level 1 2
  · skip
    go_enter Tryd.func54, Tryd.ntmps54
    go_wp2_with (first | (go_at_call 79; refine (HW.out _ _ _ _).mono ?_; rintro e w' ⟨rfl, hw⟩; rw [hw]; clear hw) | (go_at_call 80; refine (HN.out _ _).mono ?_; rintro e w' ⟨rfl, hw⟩; rw [hw]; clear hw))
    go_ret
    exact ⟨rfl, HB.out⟩
  · skip
    cases h2 : Mx.within m.nodes 1 8
    · skip
      go_enter Tryd.func54, Tryd.ntmps54
      go_wp2_with (first | (go_at_call 79; refine (HW.out _ _ _ _).mono ?_; rintro e w' ⟨rfl, hw⟩; rw [hw]; clear hw) | (go_at_call 80; refine (HN.out _ _).mono ?_; rintro e w' ⟨rfl, hw⟩; rw [hw]; clear hw))
      go_ret
      exact ⟨rfl, HB.out⟩
    · skip
      cases h3 : Bk.count m.cycles
      · skip
        go_enter Tryd.func54, Tryd.ntmps54
        go_wp2_with (first | (go_at_call 79; refine (HW.out _ _ _ _).mono ?_; rintro e w' ⟨rfl, hw⟩; rw [hw]; clear hw) | (go_at_call 80; refine (HN.out _ _).mono ?_; rintro e w' ⟨rfl, hw⟩; rw [hw]; clear hw))
        go_ret
        exact ⟨rfl, HB.out⟩
      · skip
        cases h4 : Mx.within m.length 1 4000
        · skip
          go_enter Tryd.func54, Tryd.ntmps54
          go_wp2_with (first | (go_at_call 79; refine (HW.out _ _ _ _).mono ?_; rintro e w' ⟨rfl, hw⟩; rw [hw]; clear hw) | (go_at_call 80; refine (HN.out _ _).mono ?_; rintro e w' ⟨rfl, hw⟩; rw [hw]; clear hw))
          go_ret
          exact ⟨rfl, HB.out⟩
        · skip
          cases h5 : Mx.within m.enable 1 16
          · skip
            go_enter Tryd.func54, Tryd.ntmps54
            go_wp2_with (first | (go_at_call 79; refine (HW.out _ _ _ _).mono ?_; rintro e w' ⟨rfl, hw⟩; rw [hw]; clear hw) | (go_at_call 80; refine (HN.out _ _).mono ?_; rintro e w' ⟨rfl, hw⟩; rw [hw]; clear hw))
            go_ret
            exact ⟨rfl, HB.out⟩
          · skip
            cases h6 : Mx.within m.unit 1 64
            · skip
              go_enter Tryd.func54, Tryd.ntmps54
              go_wp2_with (first | (go_at_call 79; refine (HW.out _ _ _ _).mono ?_; rintro e w' ⟨rfl, hw⟩; rw [hw]; clear hw) | (go_at_call 80; refine (HN.out _ _).mono ?_; rintro e w' ⟨rfl, hw⟩; rw [hw]; clear hw))
              go_ret
              exact ⟨rfl, HB.out⟩
            · skip
              cases h7 : Mx.within m.init 0 8000
              · skip
                go_enter Tryd.func54, Tryd.ntmps54
                go_wp2_with (first | (go_at_call 79; refine (HW.out _ _ _ _).mono ?_; rintro e w' ⟨rfl, hw⟩; rw [hw]; clear hw) | (go_at_call 80; refine (HN.out _ _).mono ?_; rintro e w' ⟨rfl, hw⟩; rw [hw]; clear hw))
                go_ret
                exact ⟨rfl, HB.out⟩
              · skip
                cases h8 : (m.ref % 8 == 0)
                · skip
                  rw [h8] at HM HM2
                  go_enter Tryd.func54, Tryd.ntmps54
                  go_wp2_with (first | (go_at_call 79; refine (HW.out _ _ _ _).mono ?_; rintro e w' ⟨rfl, hw⟩; rw [hw]; clear hw) | (go_at_call 80; refine (HN.out _ _).mono ?_; rintro e w' ⟨rfl, hw⟩; rw [hw]; clear hw))
                  go_ret
                  exact ⟨rfl, HB.out⟩
                · skip
                  rw [h8] at HM HM2
                  go_enter Tryd.func54, Tryd.ntmps54
                  generalize decide (m.ref < 2048) = b9 at HI ⊢
                  go_wp2_with (first | (go_at_call 79; refine (HW.out _ _ _ _).mono ?_; rintro e w' ⟨rfl, hw⟩; rw [hw]; clear hw) | (go_at_call 80; refine (HN.out _ _).mono ?_; rintro e w' ⟨rfl, hw⟩; rw [hw]; clear hw))
                  refine HI.out.mono ?_
                  rintro e w1 ⟨rfl, hb⟩
                  go_wp2
                  go_ret
                  exact ⟨rfl, HB.out.trans (hb.mono HZ.out)⟩
set_option maxRecDepth 100000 in
set_option maxHeartbeats 4000000 in
theorem mk_window (w : World) (m : Mx.M) (x : Mx.Win) : Calls Tryd.prog 60 #[.agg (Bk.hCs m), .agg (Bk.wCs x)] w fun e w' => e = .returned (.bool (Bk.win m x)) ∧ Below w.heap.size w w' := by
  have HR0 : RowT 78 (w.alloc (.cells (Bk.hCs m) 78)) w.heap.size (Bk.hCs m) := RowT.new _ _ _
  have HR : RowT 78 ((w.alloc (.cells (Bk.hCs m) 78)).alloc (.cells (Bk.wCs x) 58)) w.heap.size (Bk.hCs m) := HR0.on ((Below.refl _ _).alloc (Nat.le_refl _) _)
  have HV : RowT 58 ((w.alloc (.cells (Bk.hCs m) 78)).alloc (.cells (Bk.wCs x) 58)) (w.alloc (.cells (Bk.hCs m) 78)).heap.size (Bk.wCs x) := RowT.new _ _ _
  have hsz : (w.alloc (.cells (Bk.hCs m) 78)).heap.size = w.heap.size + 1 := by simp
  rw [hsz] at HV
  have HB : Hid (Below w.heap.size w ((w.alloc (.cells (Bk.hCs m) 78)).alloc (.cells (Bk.wCs x) 58))) := ((Below.refl _ _).alloc (Nat.le_refl _) _).alloc (by omega) _
  obtain ⟨c0, c1, c2, c3, c4, c5, c6, c7⟩ := Bk.hCells HR
  obtain ⟨v0, v1, v2, v3, v4, v5⟩ := Bk.wCells HV
  have HW : Hid (∀ (w : World) (n lo hi : Int), Calls Tryd.prog 79 #[.int .i64 n, .int .i64 lo, .int .i64 hi] w fun e w' => e = .returned (.bool (Mx.within n lo hi)) ∧ w' = w) := mk_within
  have HN : Hid (∀ (w : World) (n : Int), Calls Tryd.prog 80 #[.int .i64 n] w fun e w' => e = .returned (.bool (Bk.count n)) ∧ w' = w) := mk_count
  have HU : Hid (∀ (w : World) (n : Int), Calls Tryd.prog 56 #[.int .i64 n] w fun e w' => e = .returned (.bool (Mx.within n 0 99)) ∧ w' = w) := mk_number
  unfold Bk.win
  clear HR0 HR HV hsz c0 c1 c4 c5 c6 c7
  generalize Bk.hCs m = cs at *
  generalize Bk.wCs x = ws at *
  cases h1 : Mx.within x.kind 1 3
  · skip
    go_enter Tryd.func60, Tryd.ntmps60
    go_wp2_with (first | (go_at_call 79; refine (HW.out _ _ _ _).mono ?_; rintro e w' ⟨rfl, hw⟩; rw [hw]; clear hw) | (go_at_call 80; refine (HN.out _ _).mono ?_; rintro e w' ⟨rfl, hw⟩; rw [hw]; clear hw) | (go_at_call 56; refine (HU.out _ _).mono ?_; rintro e w' ⟨rfl, hw⟩; rw [hw]; clear hw))
    go_ret
    exact ⟨by first | rfl | simp, HB.out⟩
  · skip
    cases h2 : Mx.within x.start 0 m.length
    · skip
      go_enter Tryd.func60, Tryd.ntmps60
      go_wp2_with (first | (go_at_call 79; refine (HW.out _ _ _ _).mono ?_; rintro e w' ⟨rfl, hw⟩; rw [hw]; clear hw) | (go_at_call 80; refine (HN.out _ _).mono ?_; rintro e w' ⟨rfl, hw⟩; rw [hw]; clear hw) | (go_at_call 56; refine (HU.out _ _).mono ?_; rintro e w' ⟨rfl, hw⟩; rw [hw]; clear hw))
      go_ret
      exact ⟨by first | rfl | simp, HB.out⟩
    · skip
      cases h3 : Mx.within x.fin 0 m.length
      · skip
        go_enter Tryd.func60, Tryd.ntmps60
        go_wp2_with (first | (go_at_call 79; refine (HW.out _ _ _ _).mono ?_; rintro e w' ⟨rfl, hw⟩; rw [hw]; clear hw) | (go_at_call 80; refine (HN.out _ _).mono ?_; rintro e w' ⟨rfl, hw⟩; rw [hw]; clear hw) | (go_at_call 56; refine (HU.out _ _).mono ?_; rintro e w' ⟨rfl, hw⟩; rw [hw]; clear hw))
        go_ret
        exact ⟨by first | rfl | simp, HB.out⟩
      · skip
        cases h4 : decide (x.start < x.fin)
        · skip
          go_enter Tryd.func60, Tryd.ntmps60
          go_wp2_with (first | (go_at_call 79; refine (HW.out _ _ _ _).mono ?_; rintro e w' ⟨rfl, hw⟩; rw [hw]; clear hw) | (go_at_call 80; refine (HN.out _ _).mono ?_; rintro e w' ⟨rfl, hw⟩; rw [hw]; clear hw) | (go_at_call 56; refine (HU.out _ _).mono ?_; rintro e w' ⟨rfl, hw⟩; rw [hw]; clear hw))
          go_ret
          exact ⟨by first | rfl | simp, HB.out⟩
        · skip
          cases h5 : Bk.count x.rep
          · skip
            go_enter Tryd.func60, Tryd.ntmps60
            go_wp2_with (first | (go_at_call 79; refine (HW.out _ _ _ _).mono ?_; rintro e w' ⟨rfl, hw⟩; rw [hw]; clear hw) | (go_at_call 80; refine (HN.out _ _).mono ?_; rintro e w' ⟨rfl, hw⟩; rw [hw]; clear hw) | (go_at_call 56; refine (HU.out _ _).mono ?_; rintro e w' ⟨rfl, hw⟩; rw [hw]; clear hw))
            go_ret
            exact ⟨by first | rfl | simp, HB.out⟩
          · skip
            obtain ⟨hr1, hr2⟩ := Bk.count_b h5
            cases h6 : decide (x.rep ≤ m.cycles)
            · skip
              go_enter Tryd.func60, Tryd.ntmps60
              go_wp2_with (first | (go_at_call 79; refine (HW.out _ _ _ _).mono ?_; rintro e w' ⟨rfl, hw⟩; rw [hw]; clear hw) | (go_at_call 80; refine (HN.out _ _).mono ?_; rintro e w' ⟨rfl, hw⟩; rw [hw]; clear hw) | (go_at_call 56; refine (HU.out _ _).mono ?_; rintro e w' ⟨rfl, hw⟩; rw [hw]; clear hw))
              go_ret
              exact ⟨by first | rfl | simp, HB.out⟩
            · skip
              cases h7 : Mx.within x.cycle 0 (x.rep - 1)
              · skip
                go_enter Tryd.func60, Tryd.ntmps60
                go_wp2_with (first | (go_at_call 79; refine (HW.out _ _ _ _).mono ?_; rintro e w' ⟨rfl, hw⟩; rw [hw]; clear hw) | (go_at_call 80; refine (HN.out _ _).mono ?_; rintro e w' ⟨rfl, hw⟩; rw [hw]; clear hw) | (go_at_call 56; refine (HU.out _ _).mono ?_; rintro e w' ⟨rfl, hw⟩; rw [hw]; clear hw))
                go_ret
                exact ⟨by first | rfl | simp, HB.out⟩
              · skip
                cases h8 : Mx.within x.msg 0 99
                · skip
                  go_enter Tryd.func60, Tryd.ntmps60
                  go_wp2_with (first | (go_at_call 79; refine (HW.out _ _ _ _).mono ?_; rintro e w' ⟨rfl, hw⟩; rw [hw]; clear hw) | (go_at_call 80; refine (HN.out _ _).mono ?_; rintro e w' ⟨rfl, hw⟩; rw [hw]; clear hw) | (go_at_call 56; refine (HU.out _ _).mono ?_; rintro e w' ⟨rfl, hw⟩; rw [hw]; clear hw))
                  go_ret
                  exact ⟨by first | rfl | simp, HB.out⟩
                · skip
                  cases h9 : (x.msg == 0)
                  · skip
                    go_enter Tryd.func60, Tryd.ntmps60
                    go_wp2_with (first | (go_at_call 79; refine (HW.out _ _ _ _).mono ?_; rintro e w' ⟨rfl, hw⟩; rw [hw]; clear hw) | (go_at_call 80; refine (HN.out _ _).mono ?_; rintro e w' ⟨rfl, hw⟩; rw [hw]; clear hw) | (go_at_call 56; refine (HU.out _ _).mono ?_; rintro e w' ⟨rfl, hw⟩; rw [hw]; clear hw))
                    go_ret
                    exact ⟨by first | rfl | simp, HB.out⟩
                  · skip
                    go_enter Tryd.func60, Tryd.ntmps60
                    go_wp2_with (first | (go_at_call 79; refine (HW.out _ _ _ _).mono ?_; rintro e w' ⟨rfl, hw⟩; rw [hw]; clear hw) | (go_at_call 80; refine (HN.out _ _).mono ?_; rintro e w' ⟨rfl, hw⟩; rw [hw]; clear hw) | (go_at_call 56; refine (HU.out _ _).mono ?_; rintro e w' ⟨rfl, hw⟩; rw [hw]; clear hw))
                    go_ret
                    exact ⟨by first | rfl | simp, HB.out⟩
end Go.Proofs.YtnbfnipdiffphaaDoor
