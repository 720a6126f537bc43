/- Layer 21: frames of a beat's identifier, plain: which of them are beats. -/
import Derived.Test.YtoinkaakiohclaaDoorK21
import Derived.Test.YtoinkaakiohclaaDoorHl
namespace Go.Proofs.YtoinkaakiohclaaDoor
open Go.RowKit Go.WideShapes
set_option linter.unusedVariables false
def Mx.l21b : Mx.M := ⟨1, 2, 2, 200, 1, 16, 0, 16, [0, 1], [], []⟩
def Q21.fine (k n : Nat) (d : ByteArray) : Bool := decide (k < 2) && (decide (d.size = n) && (decide (Q21.byte d 0 < 2) && (n == 1 || decide (Q21.byte d 1 < 2))))
theorem Q21.u8_back (x : UInt8) : Pq.u8 (x.toNat : Int) = x := by
  have h := x.toNat_lt
  apply UInt8.toNat_inj.1
  have := Pq.u8_mod (x.toNat : Int)
  omega
theorem Q21.fits21 {m : Mx.M} (hm : m = Mx.l21 ∨ m = Mx.l21b) (k c : Nat) : Q21.fits m (k : Int) (c : Int) = (decide (k < 2) && decide (c < 2)) := by
  have h : Mx.is m = true ∧ m.masters.length = 2 ∧ m.cycles = 2 := by rcases hm with rfl | rfl <;> exact ⟨by decide, rfl, rfl⟩
  unfold Q21.fits
  rw [h.1, h.2.1, h.2.2, Bool.eq_iff_iff]
  simp only [Bool.true_and, Bool.and_eq_true, decide_eq_true_eq]
  omega
theorem Q21.cand21 {m : Mx.M} (hm : m = Mx.l21 ∨ m = Mx.l21b) {k : Nat} (hk : k < 8) {d : ByteArray} (h8 : d.size ≤ 8) : (Fm.isF false (16 + k) false d.data.toList && (!false && (!false && (decide (m.ref ≤ 16 + k) && decide (1 ≤ d.size))))) = decide (1 ≤ d.size) := by
  have h : m.ref = 16 := by rcases hm with rfl | rfl <;> rfl
  have e : Fm.isF false (16 + k) false d.data.toList = true := by
    unfold Fm.isF
    simp only [Bool.and_eq_true, decide_eq_true_eq, Bool.not_false, Bool.true_or, and_true]
    refine ⟨?_, by simpa using h8⟩
    show 16 + k < 2048
    omega
  rw [h, e, decide_eq_true (show 16 ≤ 16 + k by omega)]
  simp
theorem Q21.forms2 {k : Nat} (hk : k < 8) {d : ByteArray} (h8 : d.size ≤ 8) : Q21.parse Mx.l21 false (16 + k) false d = if Q21.fine k 4 d then some (Q21.told Mx.l21 (16 + k) d) else none := by
  unfold Q21.parse
  rw [Q21.cand21 (Or.inl rfl) hk h8]
  have hr : (Q21.told Mx.l21 (16 + k) d).rank = (k : Int) := by
    unfold Q21.told; split <;> (show (((16 + k - 16 : Nat)) : Int) = k; omega)
  have hc : (Q21.told Mx.l21 (16 + k) d).cycle = (Q21.byte d 0 : Int) := by unfold Q21.told; split <;> rfl
  unfold Q21.build
  rw [hr, hc, Q21.fits21 (Or.inl rfl)]
  generalize hT : Q21.told Mx.l21 (16 + k) d = T at *
  have hd : Q21.data Mx.l21 (Q21.byte d 0 : Int) T.glob T.disc = [Pq.u8 (Q21.byte d 0 : Int), (if T.disc then 1 else 0), Pq.u8 ((T.glob : Int) / 256), Pq.u8 (T.glob : Int)] := rfl
  rw [hd]
  have href : Mx.l21.ref + (k : Int).toNat = 16 + k := by show 16 + (k : Int).toNat = 16 + k; omega
  rw [href]
  obtain ⟨⟨l⟩⟩ := d
  unfold Q21.fine
  by_cases h1 : k < 2 ∧ Q21.byte ⟨⟨l⟩⟩ 0 < 2
  · rw [decide_eq_true h1.1, decide_eq_true h1.2]
    simp only [Bool.and_self, Bool.true_and, if_true]
    rcases l with _ | ⟨x0, _ | ⟨x1, _ | ⟨x2, _ | ⟨x3, _ | ⟨x4, t⟩⟩⟩⟩⟩
    · simp [ByteArray.size]
    · simp [ByteArray.size]
    · simp [ByteArray.size]
    · simp [ByteArray.size]
    · have e0 : Q21.byte ⟨⟨[x0, x1, x2, x3]⟩⟩ 0 = x0.toNat := rfl
      have e1 : Q21.byte ⟨⟨[x0, x1, x2, x3]⟩⟩ 1 = x1.toNat := rfl
      have eT : T = ⟨((16 + k - 16 : Nat) : Int), (x0.toNat : Int), x2.toNat * 256 + x3.toNat, x1.toNat == 1⟩ := by rw [← hT]; rfl
      have hg1 : Pq.u8 ((T.glob : Int) / 256) = x2 := by
        rw [eT]
        have := x3.toNat_lt
        rw [show (((x2.toNat * 256 + x3.toNat : Nat) : Int) / 256) = (x2.toNat : Int) by omega, Q21.u8_back]
      have hg2 : Pq.u8 (T.glob : Int) = x3 := by
        rw [eT]
        apply UInt8.toNat_inj.1
        have := Pq.u8_mod ((x2.toNat * 256 + x3.toNat : Nat) : Int)
        have := x3.toNat_lt
        show (Pq.u8 ((x2.toNat * 256 + x3.toNat : Nat) : Int)).toNat = x3.toNat
        omega
      have hd1 : T.disc = (x1.toNat == 1) := by rw [eT]
      rw [hg1, hg2, e0, Q21.u8_back, hd1, e1]
      by_cases hx : x1.toNat < 2
      · have hx1 : (if (x1.toNat == 1) = true then (1 : UInt8) else 0) = x1 := by
          apply UInt8.toNat_inj.1
          split
          · next h => simp at h; rw [h]; rfl
          · next h => simp at h; show 0 = x1.toNat; omega
        rw [hx1]
        simp [ByteArray.size, hx]
      · have hx1 : ¬ ((if (x1.toNat == 1) = true then (1 : UInt8) else 0) = x1) := by
          intro h
          apply hx
          rw [← h]
          split <;> decide
        simp [ByteArray.size, hx]
        intro h
        exact hx1 (by simpa using h)
    · simp [ByteArray.size]
  · have e : (decide (k < 2) && decide (Q21.byte ⟨⟨l⟩⟩ 0 < 2)) = false := by
      rw [Bool.eq_false_iff]; intro h; simp only [Bool.and_eq_true, decide_eq_true_eq] at h; exact h1 h
    rw [e]
    have e2 : (decide (k < 2) && (decide (ByteArray.size ⟨⟨l⟩⟩ = 4) && (decide (Q21.byte ⟨⟨l⟩⟩ 0 < 2) && ((4 : Nat) == 1 || decide (Q21.byte ⟨⟨l⟩⟩ 1 < 2))))) = false := by
      rw [Bool.eq_false_iff]; intro h; simp only [Bool.and_eq_true, decide_eq_true_eq] at h; exact h1 ⟨h.1, h.2.2.1⟩
    rw [e2]
    simp
theorem Q21.forms1 {k : Nat} (hk : k < 8) {d : ByteArray} (h8 : d.size ≤ 8) : Q21.parse Mx.l21b false (16 + k) false d = if Q21.fine k 1 d then some (Q21.told Mx.l21b (16 + k) d) else none := by
  unfold Q21.parse
  rw [Q21.cand21 (Or.inr rfl) hk h8]
  have eT : Q21.told Mx.l21b (16 + k) d = ⟨((16 + k - 16 : Nat) : Int), (Q21.byte d 0 : Int), 0, false⟩ := by unfold Q21.told; rw [if_neg (by intro h; exact absurd h.1 (by decide))]; rfl
  rw [eT]
  unfold Q21.build
  dsimp only
  rw [show ((16 + k - 16 : Nat) : Int) = (k : Int) by omega, Q21.fits21 (Or.inr rfl)]
  have hd : Q21.data Mx.l21b (Q21.byte d 0 : Int) 0 false = [Pq.u8 (Q21.byte d 0 : Int)] := rfl
  rw [hd]
  have href : Mx.l21b.ref + (k : Int).toNat = 16 + k := by show 16 + (k : Int).toNat = 16 + k; omega
  rw [href]
  obtain ⟨⟨l⟩⟩ := d
  unfold Q21.fine
  by_cases h1 : k < 2 ∧ Q21.byte ⟨⟨l⟩⟩ 0 < 2
  · rw [decide_eq_true h1.1, decide_eq_true h1.2]
    simp only [Bool.and_self, Bool.true_and, if_true]
    rcases l with _ | ⟨x0, _ | ⟨x1, t⟩⟩
    · simp [ByteArray.size]
    · have e0 : Q21.byte ⟨⟨[x0]⟩⟩ 0 = x0.toNat := rfl
      rw [e0, Q21.u8_back]
      simp [ByteArray.size]
    · simp [ByteArray.size]
  · have e : (decide (k < 2) && decide (Q21.byte ⟨⟨l⟩⟩ 0 < 2)) = false := by
      rw [Bool.eq_false_iff]; intro h; simp only [Bool.and_eq_true, decide_eq_true_eq] at h; exact h1 h
    rw [e]
    have e2 : (decide (k < 2) && (decide (ByteArray.size ⟨⟨l⟩⟩ = 1) && (decide (Q21.byte ⟨⟨l⟩⟩ 0 < 2) && ((1 : Nat) == 1 || decide (Q21.byte ⟨⟨l⟩⟩ 1 < 2))))) = false := by
      rw [Bool.eq_false_iff]; intro h; simp only [Bool.and_eq_true, decide_eq_true_eq] at h; exact h1 ⟨h.1, h.2.2.1⟩
    rw [e2]
    simp
/-- An operation that its guard leaves out, taken ahead. -/
theorem skip21 {P : Program} {ops : Array Oper} {Q : Exit → Act → World → Prop} {md : Region.Mode} {S : World → Prop} {i d : Nat} {op : Op} {ty : TypeId} {pos : String} {after : Array Edge} {guard : Option (Nat × Bool)} {fuel : Nat} {listed : Array Bool} {a : Act} {w : World} (hi : ops[i]? = some ⟨some d, op, ty, pos, after, guard⟩)
    (hs : Region.noSelect ops = true) (hf : Region.free md ops listed i = true) (hr : (Region.ready md ops listed).contains i = true) (hQ : ∀ c a w, Q (.panic c) (a.put (some d) undef) w → Q (.panic c) a w)
    (hw : Region.wanted ⟨some d, op, ty, pos, after, guard⟩ (yielded ops a.tmps) = false) (hS : S w)
    (h : wpAnyH P md ops Q S fuel (listed.setIfInBounds i true) (a.put (some d) undef) w) : wpAnyH P md ops Q S (fuel + 1) listed a w :=
  wpAnyH_take hi hs hf hr hQ (Or.inr ⟨hw, rfl⟩) hS h
theorem Q21.rtr (m : Mx.M) (n : Nat) (d : ByteArray) : Q21.parse m false n true d = none := by unfold Q21.parse; rw [if_neg (by simp)]
theorem Q21.ext (m : Mx.M) (n : Nat) (r : Bool) (d : ByteArray) : Q21.parse m true n r d = none := by unfold Q21.parse; rw [if_neg (by simp)]
theorem Q21.told21 {m : Mx.M} (hm : m = Mx.l21 ∨ m = Mx.l21b) (k : Nat) (d : ByteArray) : (Q21.told m (16 + k) d).rank = (k : Int) ∧ (Q21.told m (16 + k) d).cycle = (Q21.byte d 0 : Int) := by
  have h : m.ref = 16 := by rcases hm with rfl | rfl <;> rfl
  unfold Q21.told
  split <;> exact ⟨by show (((16 + k - m.ref : Nat)) : Int) = k; rw [h]; omega, rfl⟩
end Go.Proofs.YtoinkaakiohclaaDoor
