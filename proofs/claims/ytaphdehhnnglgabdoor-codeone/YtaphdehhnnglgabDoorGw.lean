/- What the small functions of package frame answer (widths, flags, what a head tells), over the program's own text. -/
import Derived.Test.YtaphdehhnnglgabDoorTb
import Derived.Test.YtaphdehhnnglgabDoorFw2
import Derived.Deep.QuietTactic
import Derived.BigQuiet
import Derived.Handy
namespace Go.Proofs.YtaphdehhnnglgabDoor
open Go.RowKit
def hcs (h : Fm.Hd) : Array Value := #[.int .u64 h.a0, .int .u64 h.a1, .int .u64 h.a2, .int .u64 h.a3, .int .u64 h.a4, .int .u64 h.a5, .int .u64 h.a6, .int .u64 h.a7]
set_option maxHeartbeats 400000 in
theorem width_any (k : Nat) (hk : k < 8) (x : Bool) (w : World) (hT : Tab w) (y : Int) (hy : y = (k : Int)) :
    Calls Tryd.prog 44 #[.int .i64 y, .bool x] w fun e w' => e = .returned (.int .i64 (Fm.wd x k)) ∧ w' = w := by
  subst hy
  have hall := hT.2
  match k, hk with
  | 0, _ =>
    obtain ⟨c0, c1⟩ := hall 0 _ rfl
    clear hall
    simp only [Nat.mul_zero, Nat.zero_add] at c0 c1
    cases x
    all_goals
      go_enter Tryd.func44, Tryd.ntmps44
      go_wp2
      go_ret
      exact ⟨rfl, rfl⟩
  | 1, _ =>
    obtain ⟨c0, c1⟩ := hall 1 _ rfl
    clear hall
    simp only [Nat.reduceMul, Nat.reduceAdd] at c0 c1
    cases x
    all_goals
      go_enter Tryd.func44, Tryd.ntmps44
      go_wp2
      go_ret
      exact ⟨rfl, rfl⟩
  | 2, _ =>
    obtain ⟨c0, c1⟩ := hall 2 _ rfl
    clear hall
    simp only [Nat.reduceMul, Nat.reduceAdd] at c0 c1
    cases x
    all_goals
      go_enter Tryd.func44, Tryd.ntmps44
      go_wp2
      go_ret
      exact ⟨rfl, rfl⟩
  | 3, _ =>
    obtain ⟨c0, c1⟩ := hall 3 _ rfl
    clear hall
    simp only [Nat.reduceMul, Nat.reduceAdd] at c0 c1
    cases x
    all_goals
      go_enter Tryd.func44, Tryd.ntmps44
      go_wp2
      go_ret
      exact ⟨rfl, rfl⟩
  | 4, _ =>
    obtain ⟨c0, c1⟩ := hall 4 _ rfl
    clear hall
    simp only [Nat.reduceMul, Nat.reduceAdd] at c0 c1
    cases x
    all_goals
      go_enter Tryd.func44, Tryd.ntmps44
      go_wp2
      go_ret
      exact ⟨rfl, rfl⟩
  | 5, _ =>
    obtain ⟨c0, c1⟩ := hall 5 _ rfl
    clear hall
    simp only [Nat.reduceMul, Nat.reduceAdd] at c0 c1
    cases x
    all_goals
      go_enter Tryd.func44, Tryd.ntmps44
      go_wp2
      go_ret
      exact ⟨rfl, rfl⟩
  | 6, _ =>
    obtain ⟨c0, c1⟩ := hall 6 _ rfl
    clear hall
    simp only [Nat.reduceMul, Nat.reduceAdd] at c0 c1
    cases x
    all_goals
      go_enter Tryd.func44, Tryd.ntmps44
      go_wp2
      go_ret
      exact ⟨rfl, rfl⟩
  | 7, _ =>
    obtain ⟨c0, c1⟩ := hall 7 _ rfl
    clear hall
    simp only [Nat.reduceMul, Nat.reduceAdd] at c0 c1
    cases x
    all_goals
      go_enter Tryd.func44, Tryd.ntmps44
      go_wp2
      go_ret
      exact ⟨rfl, rfl⟩
theorem idWidth_any (x : Bool) (w : World) (hT : Tab w) :
    Calls Tryd.prog 30 #[.bool x] w fun e w' => e = .returned (.int .i64 (if x then 29 else 11)) ∧ w' = w := by
  have h1 : Hid (∀ w, Tab w → Calls Tryd.prog 44 #[.int .i64 1, .bool x] w fun e w' => e = .returned (.int .i64 11) ∧ w' = w) := fun w hT => by
    have := width_any 1 (by decide) x w hT 1 rfl
    cases x <;> exact this
  cases x
  · have h4 : Hid (∀ w, Tab w → Calls Tryd.prog 44 #[.int .i64 4, .bool false] w fun e w' => e = .returned (.int .i64 0) ∧ w' = w) := fun w hT => width_any 4 (by decide) false w hT 4 rfl
    go_enter Tryd.func30, Tryd.ntmps30
    go_wp2_with fail
    refine (h1.out _ hT).mono ?_; rintro e w1 ⟨rfl, rfl⟩
    go_wp2_with fail
    refine (h4.out _ hT).mono ?_; rintro e w2 ⟨rfl, rfl⟩
    go_wp2
    go_ret
    exact ⟨rfl, rfl⟩
  · have h4 : Hid (∀ w, Tab w → Calls Tryd.prog 44 #[.int .i64 4, .bool true] w fun e w' => e = .returned (.int .i64 18) ∧ w' = w) := fun w hT => width_any 4 (by decide) true w hT 4 rfl
    go_enter Tryd.func30, Tryd.ntmps30
    go_wp2_with fail
    refine (h1.out _ hT).mono ?_; rintro e w1 ⟨rfl, rfl⟩
    go_wp2_with fail
    refine (h4.out _ hT).mono ?_; rintro e w2 ⟨rfl, rfl⟩
    go_wp2
    go_ret
    exact ⟨rfl, rfl⟩
theorem flag_any (b : Bool) (w : World) : Calls Tryd.prog 45 #[.bool b] w fun e w' => e = .returned (.int .u64 (Bm.bv b)) ∧ w' = w := by
  cases b
  all_goals
    go_enter Tryd.func45, Tryd.ntmps45
    go_wp2
    go_ret
    exact ⟨rfl, rfl⟩
theorem eq1_nat (n : Nat) : ((n : Int) == 1) = (n == 1) := by rw [Bool.eq_iff_iff]; simp; omega
theorem eq0_nat (n : Nat) : ((n : Int) == 0) = (n == 0) := by rw [Bool.eq_iff_iff]; simp
theorem ext_any (h : Fm.Hd) (w : World) : Calls Tryd.prog 46 #[.agg (hcs h)] w fun e w' => e = .returned (.bool h.ext) ∧ Below w.heap.size w w' := by
  have HE : Hid (h.ext = ((h.a3 : Int) == 1)) := by show _ = _; rw [eq1_nat]; rfl
  unfold hcs
  generalize h.ext = b at *
  go_enter Tryd.func46, Tryd.ntmps46
  go_wp2
  go_ret
  exact ⟨ret_bool HE.out.symm, (Below.refl _ _).alloc (Nat.le_refl _) _⟩
end Go.Proofs.YtaphdehhnnglgabDoor
