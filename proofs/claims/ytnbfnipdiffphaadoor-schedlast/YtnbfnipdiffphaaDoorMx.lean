/- Plain mathematics of a matrix: windows and messages; nothing of the program is in it. -/
import Derived.Test.YtnbfnipdiffphaaDoorRows
namespace Go.Proofs.YtnbfnipdiffphaaDoor.Mx
structure Msg where
  id : Nat
  owner : Int
  event : Bool
deriving DecidableEq
structure Win where
  kind : Int
  start : Int
  fin : Int
  cycle : Int
  rep : Int
  msg : Int
deriving DecidableEq
structure M where
  level : Int
  nodes : Int
  cycles : Int
  length : Int
  enable : Int
  unit : Int
  init : Int
  ref : Nat
  masters : List Int
  messages : List Msg
  windows : List Win
deriving DecidableEq
def within (n lo hi : Int) : Bool := decide (lo ≤ n) && decide (n ≤ hi)
def power (n most : Int) : Bool := (n == 1 || n == 2 || n == 4 || n == 8) && decide (n ≤ most)
def scal (m : M) : Bool := within m.level 1 2 && within m.nodes 1 8 && power m.cycles 8 && within m.length 1 4000 && within m.enable 1 16 && within m.unit 1 64 && within m.init 0 8000
def lens (m : M) : Bool := decide (m.ref < 2048) && m.ref % 8 == 0 && within m.masters.length 1 4 && decide (m.messages.length ≤ 12) && decide (m.windows.length ≤ 16)
def msgOk (x : Msg) : Bool := decide (x.id < 2048) && within x.owner 0 99
def winOk (m : M) (x : Win) : Bool := within x.kind 1 3 && within x.start 0 m.length && within x.fin 0 m.length && decide (x.start < x.fin) && power x.rep m.cycles && within x.cycle 0 (x.rep - 1) && within x.msg 0 99 && (x.msg == 0 || x.kind == 1)
def is (m : M) : Bool := scal m && lens m && m.masters.all (fun x => within x 0 99) && m.messages.all msgOk && m.windows.all (winOk m)
/-- The first place at which something holds; -1. -/
def firstAt {α : Type} (p : α → Bool) (l : List α) : Int := match l.findIdx? p with | some i => (i : Int) | none => -1
def rank (m : M) (who : Int) : Int := firstAt (fun x => x == who) m.masters
def find (m : M) (ext rtr : Bool) (id : Nat) : Int := firstAt (fun x : Msg => !ext && !rtr && x.id == id) m.messages
def comes (cycle rep now : Int) : Bool := decide (0 < rep) && decide (0 ≤ cycle) && decide (cycle ≤ now) && (now - cycle) % rep == 0
/-- The identifier of a message's frame with so many bytes; none: there is no such frame. -/
def fid (m : M) (msg : Int) (sz : Nat) : Option Nat := if 0 ≤ msg ∧ sz ≤ 8 then (m.messages[msg.toNat]?).map (·.id) else none
structure Small (m : M) : Prop where
  a : m.masters.length ≤ 1000
  b : m.messages.length ≤ 1000
  c : m.windows.length ≤ 1000
theorem findIdx_lt {α : Type} {p : α → Bool} {l : List α} {k : Nat} {x : α} (hk : l[k]? = some x) (hb : ∀ j y, j < k → l[j]? = some y → p y = false) (hx : p x = true) : l.findIdx? p = some k := by
  rw [List.findIdx?_eq_some_iff_getElem]
  obtain ⟨h1, h2⟩ := List.getElem?_eq_some_iff.1 hk
  refine ⟨h1, by rw [h2]; exact hx, fun j hj => ?_⟩
  have := hb j (l[j]'(by omega)) hj (List.getElem?_eq_getElem (by omega))
  rw [this]
  decide
theorem firstAt_some {α : Type} {p : α → Bool} {l : List α} {k : Nat} {x : α} (hk : l[k]? = some x) (hb : ∀ j y, j < k → l[j]? = some y → p y = false) (hx : p x = true) : firstAt p l = (k : Int) := by
  unfold firstAt
  rw [findIdx_lt hk hb hx]
theorem firstAt_none {α : Type} {p : α → Bool} {l : List α} (hb : ∀ (j : Nat) y, l[j]? = some y → p y = false) : firstAt p l = -1 := by
  unfold firstAt
  have : l.findIdx? p = none := by
    rw [List.findIdx?_eq_none_iff]
    intro x hx
    obtain ⟨j, hj⟩ := List.getElem?_of_mem hx
    rw [hb j x hj]
  rw [this]
theorem upto_succ {α : Type} {p : α → Bool} {l : List α} {k : Nat} {x : α} (hk : l[k]? = some x) (hb : ∀ j y, j < k → l[j]? = some y → p y = false) (hx : p x = false) : ∀ j y, j < k + 1 → l[j]? = some y → p y = false := fun j y hj hy => by
  rcases Nat.lt_or_eq_of_le (Nat.le_of_lt_succ hj) with h | h
  · exact hb j y h hy
  · subst h
    rw [hk] at hy
    injection hy with hy
    subst hy
    exact hx
end Go.Proofs.YtnbfnipdiffphaaDoor.Mx
