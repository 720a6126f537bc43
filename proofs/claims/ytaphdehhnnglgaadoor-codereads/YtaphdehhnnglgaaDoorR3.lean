/- What the document's own run, with and other, answers, over their text. -/
import Derived.Test.YtaphdehhnnglgaaDoorRows
import Derived.Test.YtaphdehhnnglgaaDoorMa
import Derived.Test.YtaphdehhnnglgaaDoorMb
import Derived.WalkKit
import Derived.WalkSpells
import Derived.WalkLawsBesides
import Derived.Handy
namespace Go.Proofs.YtaphdehhnnglgaaDoor
open Go.RowKit
set_option maxHeartbeats 1000000 in
theorem refwith_any (n : Nat) (x c : Int) (w : World) (hn : n ≤ 1048576) :
    Calls Tryd.prog 37 #[.agg #[.int .i64 n, .int .u8 x], .int .u8 c] w fun e w' => e = .returned (.agg #[.int .i64 (Sm.wn n x c), .int .u8 (Sm.wb c)]) ∧ Below w.heap.size w w' := by
  by_cases hc : c = 49
  · by_cases h0 : 0 < n
    · by_cases hx : x = 49
      · have e1 : Sm.wn n x c = (n : Int) + 1 := by unfold Sm.wn Sm.wb; rw [if_pos hc, if_pos ⟨by omega, hx⟩]
        have e2 : Sm.wb c = 49 := by unfold Sm.wb; rw [if_pos hc]
        rw [e1, e2]
        have t1 : (c != 49) = false := by simp [hc]
        have t2 : (x == c) = true := by rw [hx, hc]; rfl
        clear e1 e2
        go_enter Tryd.func37, Tryd.ntmps37
        go_wp2
        exact bodyPost_ret (v := .agg #[.int .i64 ((n : Int) + 1), .int .u8 49]) (by simp [results, Tryd.results37, go_sem]) rfl ⟨rfl, ((Below.refl _ _).alloc (Nat.le_refl _) _).alloc (by simp) _⟩
      · have e1 : Sm.wn n x c = 1 := by unfold Sm.wn Sm.wb; rw [if_pos hc, if_neg (fun h => hx h.2)]
        have e2 : Sm.wb c = 49 := by unfold Sm.wb; rw [if_pos hc]
        rw [e1, e2]
        have t1 : (c != 49) = false := by simp [hc]
        have t2 : (x == c) = false := by rw [hc]; simp [hx]
        clear e1 e2
        go_enter Tryd.func37, Tryd.ntmps37
        go_wp2
        exact bodyPost_ret (v := .agg #[.int .i64 (1), .int .u8 49]) (by simp [results, Tryd.results37, go_sem]) rfl ⟨rfl, ((Below.refl _ _).alloc (Nat.le_refl _) _).alloc (by simp) _⟩
    · have e1 : Sm.wn n x c = 1 := by unfold Sm.wn Sm.wb; rw [if_pos hc, if_neg (fun h => by omega)]
      have e2 : Sm.wb c = 49 := by unfold Sm.wb; rw [if_pos hc]
      rw [e1, e2]
      have t1 : (c != 49) = false := by simp [hc]
      clear e1 e2
      go_enter Tryd.func37, Tryd.ntmps37
      go_wp2
      exact bodyPost_ret (v := .agg #[.int .i64 (1), .int .u8 49]) (by simp [results, Tryd.results37, go_sem]) rfl ⟨rfl, ((Below.refl _ _).alloc (Nat.le_refl _) _).alloc (by simp) _⟩
  · by_cases h0 : 0 < n
    · by_cases hx : x = 48
      · have e1 : Sm.wn n x c = (n : Int) + 1 := by unfold Sm.wn Sm.wb; rw [if_neg hc, if_pos ⟨by omega, hx⟩]
        have e2 : Sm.wb c = 48 := by unfold Sm.wb; rw [if_neg hc]
        rw [e1, e2]
        have t1 : (c != 49) = true := by simp [hc]
        have t2 : (x == 48) = true := by simp [hx]
        clear e1 e2
        go_enter Tryd.func37, Tryd.ntmps37
        go_wp2
        exact bodyPost_ret (v := .agg #[.int .i64 ((n : Int) + 1), .int .u8 48]) (by simp [results, Tryd.results37, go_sem]) rfl ⟨rfl, ((Below.refl _ _).alloc (Nat.le_refl _) _).alloc (by simp) _⟩
      · have e1 : Sm.wn n x c = 1 := by unfold Sm.wn Sm.wb; rw [if_neg hc, if_neg (fun h => hx h.2)]
        have e2 : Sm.wb c = 48 := by unfold Sm.wb; rw [if_neg hc]
        rw [e1, e2]
        have t1 : (c != 49) = true := by simp [hc]
        have t2 : (x == 48) = false := by simp [hx]
        clear e1 e2
        go_enter Tryd.func37, Tryd.ntmps37
        go_wp2
        exact bodyPost_ret (v := .agg #[.int .i64 (1), .int .u8 48]) (by simp [results, Tryd.results37, go_sem]) rfl ⟨rfl, ((Below.refl _ _).alloc (Nat.le_refl _) _).alloc (by simp) _⟩
    · have e1 : Sm.wn n x c = 1 := by unfold Sm.wn Sm.wb; rw [if_neg hc, if_neg (fun h => by omega)]
      have e2 : Sm.wb c = 48 := by unfold Sm.wb; rw [if_neg hc]
      rw [e1, e2]
      have t1 : (c != 49) = true := by simp [hc]
      clear e1 e2
      go_enter Tryd.func37, Tryd.ntmps37
      go_wp2
      exact bodyPost_ret (v := .agg #[.int .i64 (1), .int .u8 48]) (by simp [results, Tryd.results37, go_sem]) rfl ⟨rfl, ((Below.refl _ _).alloc (Nat.le_refl _) _).alloc (by simp) _⟩

set_option maxHeartbeats 400000 in
theorem refother_any (c : Int) (w : World) :
    Calls Tryd.prog 38 #[.int .u8 c] w fun e w' => e = .returned (.int .u8 (Sm.ob c)) ∧ w' = w := by
  unfold Sm.ob
  by_cases h : c = 49
  · have hb : (c == 49) = true := by simp [h]
    rw [if_pos h]
    clear h
    go_enter Tryd.func38, Tryd.ntmps38
    go_wp2
    go_ret
    exact ⟨rfl, rfl⟩
  · have hb : (c == 49) = false := by simp [h]
    rw [if_neg h]
    go_enter Tryd.func38, Tryd.ntmps38
    go_wp2
    go_ret
    exact ⟨rfl, rfl⟩
end Go.Proofs.YtaphdehhnnglgaaDoor
