/- Package bus, over the landed code: strongest (whether a 0 is driven). -/
import Derived.Test.YthblfldnlfopcaaJ1
import Derived.Test.YthblfldnlfopcaaMb
import Derived.Lib.Bytealg
import Derived.Lib.IndexLaws
import Derived.Laws.StandIn
namespace Go.Proofs.Ythblfldnlfopcaa
open Go.RowKit
set_option linter.unusedVariables false
set_option maxHeartbeats 1000000 in
set_option maxRecDepth 100000 in
theorem idxLite_any (s : ByteArray) (c : Int) (w : World) :
    Calls Try.prog 16 #[.string s, .int .u8 c] w fun e w' => e = .returned (.int .i64 (firstIdx s c.toNat.toUInt8)) ∧ w' = w := by
  go_enter Try.func16, Try.ntmps16
  go_wp2
  rw [run_callFunc_indexByte Try.func17 (by kernel_rfl) (by kernel_rfl) (by kernel_rfl) (by kernel_rfl), run_indexByte_string]
  simp only [Result.andThen]
  rw [Oper.upon_value]
  go_wp2
  go_ret
  exact ⟨rfl, rfl⟩
set_option maxHeartbeats 1000000 in
set_option maxRecDepth 100000 in
theorem idx_any (s : ByteArray) (c : Int) (w : World) :
    Calls Try.prog 15 #[.string s, .int .u8 c] w fun e w' => e = .returned (.int .i64 (firstIdx s c.toNat.toUInt8)) ∧ w' = w := by
  go_enter Try.func15, Try.ntmps15
  go_wp2_with (go_at_call 16; refine (idxLite_any _ _ _).mono ?_; rintro e w' ⟨rfl, rfl⟩)
  go_ret
  exact ⟨rfl, rfl⟩
theorem first_wire (s : ByteArray) : decide (firstIdx s 48 ≥ 0) = !Bz.wire s.data.toList := by
  unfold firstIdx Bz.wire
  cases h : (List.range s.size).find? (fun i => s[i]! == 48) with
  | none =>
    rw [List.find?_eq_none] at h
    have : s.data.toList.all (fun c => c != 48) = true := by
      rw [List.all_eq_true]
      intro x hx
      obtain ⟨i, hi, rfl⟩ := List.mem_iff_getElem.1 hx
      have hi' : i < s.size := by simpa using hi
      have := h i (List.mem_range.2 hi')
      rw [getElem!_pos s i hi'] at this
      have e : s[i] = s.data.toList[i] := by simp; rfl
      rw [← e]
      simpa using this
    rw [this]; rfl
  | some i =>
    have h1 := List.find?_some h
    have h2 := List.mem_range.1 (List.mem_of_find?_eq_some h)
    have : s.data.toList.all (fun c => c != 48) = false := by
      rw [List.all_eq_false]
      refine ⟨s[i], ?_, ?_⟩
      · have e : s[i] = s.data.toList[i]'(by simpa using h2) := by simp; rfl
        rw [e]; exact List.getElem_mem _
      · rw [getElem!_pos s i h2] at h1
        simpa using h1
    rw [this]; simp
set_option maxHeartbeats 1000000 in
set_option maxRecDepth 100000 in
theorem strongest_any (s : ByteArray) (w : World) :
    Calls Try.prog 14 #[.string s] w fun e w' => e = .returned (.int .u8 (Bz.sg (Bz.wire s.data.toList))) ∧ w' = w := by
  have hf := first_wire s
  generalize Bz.wire s.data.toList = b at hf ⊢
  have hf' : decide (firstIdx s (Int.toNat 48).toUInt8 ≥ 0) = !b := hf
  go_enter Try.func14, Try.ntmps14
  cases b
  all_goals
    go_wp2_with (go_at_call 15; refine (idx_any _ _ _).mono ?_; rintro e w' ⟨rfl, rfl⟩)
    go_ret
    exact ⟨rfl, rfl⟩
end Go.Proofs.Ythblfldnlfopcaa
