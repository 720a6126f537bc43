/- Layer 20: what package level is said to do, whatever it is made of. -/
import Derived.Test.YtfempghbkchepaaDoorA19
import Derived.Test.YtfempghbkchepaaDoorQ20
namespace Go.Proofs.YtfempghbkchepaaDoor
open Go.RowKit
set_option linter.unusedVariables false
/-- T: what the package may ask of the world (a table of its own that lies there). -/
structure LevelSpec (At : Ob.A (List Nat)) (T : World → Prop) : Prop where
  of_ : ∀ (w : World), T w → ∀ (p : Nat) (F : Nat → Prop) (s : List Nat) (a b : Bool), At w p F s → Ob.Looks Tryd.prog 11 #[Ob.ptr p, .bool a, .bool b] w (.int .i64 (Q19.of_ s a b : Int))
  nil : ∀ (w : World), T w → ∀ (a b : Bool), Ob.Looks Tryd.prog 11 #[.pointer none, .bool a, .bool b] w (.int .i64 (if a || b then 3 else 0))
  may : ∀ (w : World), T w → ∀ (l : Int), (Lit.int .i64 l).wf = true → Ob.Looks Tryd.prog 13 #[.int .i64 l] w (.bool (Q19.may l))
  beats : ∀ (w : World), T w → ∀ (l : Int), (Lit.int .i64 l).wf = true → Ob.Looks Tryd.prog 14 #[.int .i64 l] w (.bool (Q19.beats l))
end Go.Proofs.YtfempghbkchepaaDoor
