/- Layer 23, plain: what is sent now. Nothing of the program is in it. -/
import Derived.Test.YtnbfnipdiffphaaDoorYq
namespace Go.Proofs.YtnbfnipdiffphaaDoor.Q23
open Yq Mx
set_option linter.unusedVariables false
structure St where
  plan : List Tr
  cycle : Int
  at_ : Int
  op : Option Tr
def mk (m : M) (who : Int) : St := ⟨Yq.plan m who, 0, -1, none⟩
def begin_ (s : St) (c : Int) : St := ⟨s.plan, c, 0, none⟩
def told (s : St) (n : Int) : List Tr := if n < s.at_ then [] else Yq.due s.plan s.cycle s.at_ n
def may (t : Tr) : Bool := decide (t.kind = 1) || decide (t.kind = 2)
/-- What is open when these were told. -/
def lastO (o : Option Tr) (l : List Tr) : Option Tr := l.foldl (fun o t => if may t then some t else o) o
def now (s : St) (n : Int) : St := if n < s.at_ then s else ⟨s.plan, s.cycle, n, lastO s.op (Yq.due s.plan s.cycle s.at_ n)⟩
def close (s : St) : St := ⟨s.plan, s.cycle, s.at_, none⟩
def over (s : St) (n : Int) : Bool := match s.op with | some t => decide (t.til < n) | none => false
def tz : Tr := ⟨0, 0, 0, 0, 0, 0⟩
theorem told_le (s : St) (n : Int) : (told s n).length ≤ s.plan.length := by
  unfold told
  split
  · exact Nat.zero_le _
  · exact List.length_filter_le _ _
theorem told_lo {s : St} {n : Int} (h : n < s.at_) : told s n = [] := if_pos h
theorem told_hi {s : St} {n : Int} (h : ¬ n < s.at_) : told s n = Yq.due s.plan s.cycle s.at_ n := if_neg h
theorem now_lo {s : St} {n : Int} (h : n < s.at_) : now s n = s := if_pos h
theorem now_hi {s : St} {n : Int} (h : ¬ n < s.at_) : now s n = ⟨s.plan, s.cycle, n, lastO s.op (Yq.due s.plan s.cycle s.at_ n)⟩ := if_neg h
theorem lastO_take (o : Option Tr) {l : List Tr} {k : Nat} {t : Tr} (h : l[k]? = some t) : lastO o (l.take (k + 1)) = if may t then some t else lastO o (l.take k) := by
  unfold lastO
  rw [List.take_add_one, h, List.foldl_append]
  rfl
theorem now_plan (s : St) (n : Int) : (now s n).plan = s.plan := by
  unfold now
  split <;> rfl
theorem mem_told {s : St} {n : Int} {t : Tr} (h : t ∈ told s n) : t ∈ s.plan := by
  unfold told at h
  split at h
  · cases h
  · exact (List.mem_filter.1 h).1
end Go.Proofs.YtnbfnipdiffphaaDoor.Q23
