/- What the document's own Is, Arb, Body of frames answer, over their text. -/
import Derived.Test.YtoinkaakiohclaaDoorU5
import Derived.Test.YtoinkaakiohclaaDoorU1
namespace Go.Proofs.YtoinkaakiohclaaDoor
open Go.RowKit
theorem isEmpty_data (d : ByteArray) : d.toList.isEmpty = d.data.toList.isEmpty := by rw [ByteArray.toList_eq]
theorem isF_dec (x : Bool) (n : Nat) (r : Bool) (d : ByteArray) : Fm.isF x n r d.data.toList = (decide ((n : Int) < if x then 536870912 else 2048) && (decide ((d.size : Int) ≤ 8) && (!r || d.toList.isEmpty))) := by
  rw [isEmpty_data]
  unfold Fm.isF Fm.top
  have e1 : decide (n < if x = true then 536870912 else 2048) = decide ((n : Int) < if x = true then 536870912 else 2048) := by
    cases x
    · exact decide_eq_decide.2 (by simp only [Bool.false_eq_true, if_false]; omega)
    · exact decide_eq_decide.2 (by simp only [if_true]; omega)
  have e2 : decide (d.data.toList.length ≤ 8) = decide ((d.size : Int) ≤ 8) := decide_eq_decide.2 (by rw [show d.data.toList.length = d.size from by simp]; omega)
  rw [e1, e2]
set_option maxRecDepth 100000 in
set_option maxHeartbeats 1000000 in
theorem refFIs_any (x : Bool) (n : Nat) (r : Bool) (d : ByteArray) (w : World) :
    Calls Tryd.prog 22 #[.agg #[.bool x, .int .u32 n, .bool r, .string d]] w fun e w' => e = .returned (.bool (Fm.isF x n r d.data.toList)) ∧ Below w.heap.size w w' := by
  have HV : Hid (_) := isF_dec x n r d
  generalize Fm.isF x n r d.data.toList = res at *
  cases x
  · have hx : (if false = true then (536870912 : Int) else 2048) = 2048 := rfl
    rw [hx] at HV
    clear hx
    cases h1 : decide ((n : Int) < 2048)
    · have hv : Hid (res = false) := by show _ = _; rw [HV.out, h1]; rfl
      go_enter Tryd.func22, Tryd.ntmps22
      go_wp2
      go_ret
      exact ⟨ret_bool hv.out.symm, (Below.refl _ _).alloc (Nat.le_refl _) _⟩
    · cases h2 : decide ((d.size : Int) ≤ 8)
      · have hv : Hid (res = false) := by show _ = _; rw [HV.out, h1, h2]; rfl
        go_enter Tryd.func22, Tryd.ntmps22
        go_wp2
        go_ret
        exact ⟨ret_bool hv.out.symm, (Below.refl _ _).alloc (Nat.le_refl _) _⟩
      · cases r
        · have hv : Hid (res = true) := by show _ = _; rw [HV.out, h1, h2]; rfl
          go_enter Tryd.func22, Tryd.ntmps22
          go_wp2
          go_ret
          exact ⟨ret_bool hv.out.symm, (Below.refl _ _).alloc (Nat.le_refl _) _⟩
        · have hv : Hid (res = d.toList.isEmpty) := by show _ = _; rw [HV.out, h1, h2]; rfl
          go_enter Tryd.func22, Tryd.ntmps22
          go_wp2
          go_ret
          exact ⟨ret_bool hv.out.symm, (Below.refl _ _).alloc (Nat.le_refl _) _⟩
  · have hx : (if true = true then (536870912 : Int) else 2048) = 536870912 := rfl
    rw [hx] at HV
    clear hx
    cases h1 : decide ((n : Int) < 536870912)
    · have hv : Hid (res = false) := by show _ = _; rw [HV.out, h1]; rfl
      go_enter Tryd.func22, Tryd.ntmps22
      go_wp2
      go_ret
      exact ⟨ret_bool hv.out.symm, (Below.refl _ _).alloc (Nat.le_refl _) _⟩
    · cases h2 : decide ((d.size : Int) ≤ 8)
      · have hv : Hid (res = false) := by show _ = _; rw [HV.out, h1, h2]; rfl
        go_enter Tryd.func22, Tryd.ntmps22
        go_wp2
        go_ret
        exact ⟨ret_bool hv.out.symm, (Below.refl _ _).alloc (Nat.le_refl _) _⟩
      · cases r
        · have hv : Hid (res = true) := by show _ = _; rw [HV.out, h1, h2]; rfl
          go_enter Tryd.func22, Tryd.ntmps22
          go_wp2
          go_ret
          exact ⟨ret_bool hv.out.symm, (Below.refl _ _).alloc (Nat.le_refl _) _⟩
        · have hv : Hid (res = d.toList.isEmpty) := by show _ = _; rw [HV.out, h1, h2]; rfl
          go_enter Tryd.func22, Tryd.ntmps22
          go_wp2
          go_ret
          exact ⟨ret_bool hv.out.symm, (Below.refl _ _).alloc (Nat.le_refl _) _⟩
end Go.Proofs.YtoinkaakiohclaaDoor
