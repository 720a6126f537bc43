/- What Most of package stuff answers, over the program's own text. -/
import Derived.Test.YtcgpnnmceijmjaaX6
namespace Go.Proofs.Ytcgpnnmceijmjaa
open Go.RowKit
set_option maxHeartbeats 400000 in
theorem most_any (n : Int) (w : World) :
    Calls Try.prog 17 #[.int .i64 n] w fun e w' => e = .returned (.int .i64 (Sm.most (Sm.hold n))) ∧ w' = w := by
  have hmm : min (max n 0) 10000 = (Sm.hold n : Int) := by unfold Sm.hold; omega
  have hK : Sm.hold n ≤ 10000 := by unfold Sm.hold; omega
  have HM : Hid (Sm.most (Sm.hold n) = if Sm.hold n < 5 then Sm.hold n else Sm.hold n + 1 + (Sm.hold n - 5) / 4) := rfl
  generalize Sm.most (Sm.hold n) = M at *
  generalize Sm.hold n = K at *
  by_cases h : K < 5
  · go_enter Try.func17, Try.ntmps17
    go_wp2
    go_ret
    exact ⟨ret_int (by rw [HM.out, if_pos h]), rfl⟩
  · go_enter Try.func17, Try.ntmps17
    go_wp2
    go_ret
    exact ⟨ret_int (by rw [HM.out, if_neg h]; omega), rfl⟩
end Go.Proofs.Ytcgpnnmceijmjaa
