/- What bit of package bits answers, over the program's own text. -/
import Derived.Test.YtfnbkehabadpmabDoorRows
import Derived.Test.YtfnbkehabadpmabDoorBm2
import Derived.Test.YtfnbkehabadpmabDoorCv
import Derived.Test.YtfnbkehabadpmabDoorLw
import Derived.WalkKit
import Derived.WalkSpells
import Derived.WalkLawsBesides
import Derived.Handy
namespace Go.Proofs.YtfnbkehabadpmabDoor
open Go.RowKit
set_option maxHeartbeats 400000 in
theorem bit_any (c : Int) (w : World) :
    Calls Tryd.prog 32 #[.int .u8 c] w fun e w' => e = .returned (.int .u8 (Bm.bitI c)) ∧ w' = w := by
  unfold Bm.bitI
  by_cases h : c = 49
  · have hb : (c == 49) = true := by simp [h]
    rw [if_pos h]
    clear h
    go_enter Tryd.func32, Tryd.ntmps32
    go_wp2
    go_ret
    exact ⟨rfl, rfl⟩
  · have hb : (c == 49) = false := by simp [h]
    rw [if_neg h]
    go_enter Tryd.func32, Tryd.ntmps32
    go_wp2
    go_ret
    exact ⟨rfl, rfl⟩
end Go.Proofs.YtfnbkehabadpmabDoor
