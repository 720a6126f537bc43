/- Plain mathematics of frames: whether it is one, its bits, its order, its text, what a row of bits begins with; nothing of the program is in it. -/
import Derived.Test.YtfnbkehabadpmabDoorBm4
namespace Go.Proofs.YtfnbkehabadpmabDoor.Fm
open Go.Proofs.YtfnbkehabadpmabDoor.Bm

def top (x : Bool) : Nat := if x then 536870912 else 2048
def isF (x : Bool) (n : Nat) (r : Bool) (d : List UInt8) : Bool := decide (n < top x) && (decide (d.length ≤ 8) && (!r || d.isEmpty))
def arb0 (x : Bool) (n : Nat) (r : Bool) : List Bool := if x then false :: (ofB (n / 262144) 11 ++ (true :: true :: (ofB n 18 ++ [r]))) else false :: (ofB n 11 ++ [r, false])
def arb (x : Bool) (n : Nat) (r : Bool) (d : List UInt8) : List Bool := if isF x n r d then arb0 x n r else []
def body0 (x : Bool) (n : Nat) (r : Bool) (d : List UInt8) : List Bool := arb0 x n r ++ ((if x then [false, false] else [false]) ++ (ofB d.length 4 ++ fromB d))
def body (x : Bool) (n : Nat) (r : Bool) (d : List UInt8) : List Bool := if isF x n r d then body0 x n r d else []

/-- at the first bit at which they are unlike -/
def cmpB : List Bool → List Bool → Int
  | a :: s, b :: t => if a = b then cmpB s t else if a then 1 else -1
  | _, _ => 0

/-- so many bits from a place on -/
def cut (bs : List Bool) (i l : Nat) : List Bool := (bs.drop i).take l
def none_ (e : Nat) : (Bool × Nat × Bool × List UInt8) × Nat × Nat := ((false, 0, false, []), 0, e)
def parseD (bs : List Bool) (x : Bool) (n : Nat) (r : Bool) (p k : Nat) : (Bool × Nat × Bool × List UInt8) × Nat × Nat :=
  if bs.length < p + 8 * k then none_ 10 else ((x, n, r, Bm.bytes (cut bs p (8 * k))), p + 8 * k, 0)
def parseL (bs : List Bool) (x : Bool) (n : Nat) (r : Bool) (p : Nat) : (Bool × Nat × Bool × List UInt8) × Nat × Nat :=
  if bs.length < p + 4 then none_ 10 else parseD bs x n r (p + 4) (if r then 0 else min (num (cut bs p 4)) 8)
def parse (bs : List Bool) : (Bool × Nat × Bool × List UInt8) × Nat × Nat :=
  if bs.length < 1 then none_ 10 else if bs.getD 0 false then none_ 12 else if bs.length < 14 then none_ 10 else
  if bs.getD 13 false then (if bs.getD 12 false then (if bs.length < 33 then none_ 10 else parseL bs true (num (cut bs 1 11) * 262144 + num (cut bs 14 18)) (bs.getD 32 false) 35) else none_ 12)
  else parseL bs false (num (cut bs 1 11)) (bs.getD 12 false) 15

def hexd (k : Nat) : UInt8 := UInt8.ofNat (if k < 10 then 48 + k else 55 + k)
def hexs (n : Nat) : Nat → List UInt8
  | 0 => []
  | w + 1 => hexd (n / 16 ^ w % 16) :: hexs n w
theorem length_hexs (n : Nat) : ∀ w, (hexs n w).length = w := by
  intro w
  induction w with
  | zero => rfl
  | succ w ih => simp [hexs, ih]
def hexB (d : List UInt8) : List UInt8 := d.flatMap fun c => hexs c.toNat 2
theorem length_hexB (d : List UInt8) : (hexB d).length = 2 * d.length := by
  induction d with
  | nil => rfl
  | cons c t ih =>
    have e : hexB (c :: t) = hexs c.toNat 2 ++ hexB t := rfl
    rw [e, List.length_append, length_hexs, ih, List.length_cons]
    omega
theorem hexB_snoc (d : List UInt8) (c : UInt8) : hexB (d ++ [c]) = hexB d ++ hexs c.toNat 2 := by simp [hexB]
def hexW (x : Bool) : Nat := if x then 8 else 3
def text0 (x : Bool) (n : Nat) (r : Bool) (d : List UInt8) : List UInt8 := hexs n (hexW x) ++ (35 :: (if r then [82] else hexB d))
def text (x : Bool) (n : Nat) (r : Bool) (d : List UInt8) : List UInt8 := if isF x n r d then text0 x n r d else []

theorem isF_parts {x : Bool} {n : Nat} {r : Bool} {d : List UInt8} (h : isF x n r d = true) : n < top x ∧ d.length ≤ 8 ∧ (r = true → d = []) := by
  unfold isF at h
  simp only [Bool.and_eq_true, decide_eq_true_eq, Bool.or_eq_true, Bool.not_eq_true', List.isEmpty_iff] at h
  obtain ⟨h1, h2, h3⟩ := h
  refine ⟨h1, h2, fun hr => ?_⟩
  rcases h3 with h3 | h3
  · rw [hr] at h3; cases h3
  · exact h3
theorem isF_mk {x : Bool} {n : Nat} {r : Bool} {d : List UInt8} (h1 : n < top x) (h2 : d.length ≤ 8) (h3 : r = true → d = []) : isF x n r d = true := by
  unfold isF
  simp only [Bool.and_eq_true, decide_eq_true_eq, Bool.or_eq_true, Bool.not_eq_true', List.isEmpty_iff]
  refine ⟨h1, h2, ?_⟩
  cases r
  · exact Or.inl rfl
  · exact Or.inr (h3 rfl)
theorem length_arb0 (x : Bool) (n : Nat) (r : Bool) : (arb0 x n r).length = if x then 33 else 14 := by
  unfold arb0
  cases x <;> simp [length_ofB]
theorem length_body0 (x : Bool) (n : Nat) (r : Bool) (d : List UInt8) : (body0 x n r d).length = (if x then 39 else 19) + 8 * d.length := by
  unfold body0
  simp only [List.length_append, length_arb0, length_ofB, length_fromB]
  cases x <;> simp <;> omega

/-! ### what is written is read -/
theorem cut_app (a b c : List Bool) (i l : Nat) (ha : a.length = i) (hb : b.length = l) : cut (a ++ (b ++ c)) i l = b := by
  unfold cut
  rw [List.drop_append, List.drop_of_length_le (by omega), ha, Nat.sub_self, List.drop_zero, List.nil_append, List.take_append, List.take_of_length_le (by omega), hb, Nat.sub_self, List.take_zero, List.append_nil]
theorem getD_app (a : List Bool) (b : Bool) (c : List Bool) (i : Nat) (ha : a.length = i) : (a ++ b :: c).getD i false = b := by
  rw [List.getD_eq_getElem?_getD, List.getElem?_append_right (by omega), ha, Nat.sub_self]
  rfl
theorem top_std {n : Nat} (h : n < top false) : n < 2048 := h
theorem top_ext {n : Nat} (h : n < top true) : n < 536870912 := h
/-- of a row that begins with a frame's bits, at least so far as asked: its first bits -/
theorem std_form (n : Nat) (r : Bool) (d : List UInt8) (m : List Bool) : body0 false n r d ++ m = false :: (ofB n 11 ++ (r :: false :: false :: (ofB d.length 4 ++ (fromB d ++ m)))) := by
  unfold body0 arb0
  simp
theorem ext_form (n : Nat) (r : Bool) (d : List UInt8) (m : List Bool) : body0 true n r d ++ m = false :: (ofB (n / 262144) 11 ++ (true :: true :: (ofB n 18 ++ (r :: false :: false :: (ofB d.length 4 ++ (fromB d ++ m)))))) := by
  unfold body0 arb0
  simp
theorem parse_std (bs : List Bool) (n : Nat) (r : Bool) (k : Nat) (hl : 19 ≤ bs.length) (h0 : bs.getD 0 false = false) (h13 : bs.getD 13 false = false) (h12 : bs.getD 12 false = r) (hn : num (cut bs 1 11) = n) (hk : (if r then 0 else min (num (cut bs 15 4)) 8) = k) :
    parse bs = parseD bs false n r 19 k := by
  unfold parse
  rw [if_neg (by omega), h0, if_neg (by decide), if_neg (by omega), h13, if_neg (by decide), h12, hn]
  unfold parseL
  rw [if_neg (by omega), hk]
theorem parse_ext (bs : List Bool) (n : Nat) (r : Bool) (k : Nat) (hl : 39 ≤ bs.length) (h0 : bs.getD 0 false = false) (h13 : bs.getD 13 false = true) (h12 : bs.getD 12 false = true) (h32 : bs.getD 32 false = r) (hn : num (cut bs 1 11) * 262144 + num (cut bs 14 18) = n) (hk : (if r then 0 else min (num (cut bs 35 4)) 8) = k) :
    parse bs = parseD bs true n r 39 k := by
  unfold parse
  rw [if_neg (by omega), h0, if_neg (by decide), if_neg (by omega), h13, if_pos rfl, h12, if_pos rfl, if_neg (by omega), h32, hn]
  unfold parseL
  rw [if_neg (by omega), hk]
theorem len4 (d : List UInt8) (h : d.length ≤ 8) : min (num (ofB d.length 4)) 8 = d.length := by
  rw [num_ofB 4 (by decide)]
  have : d.length % 2 ^ 4 = d.length := Nat.mod_eq_of_lt (by omega)
  omega
end Go.Proofs.YtfnbkehabadpmabDoor.Fm
