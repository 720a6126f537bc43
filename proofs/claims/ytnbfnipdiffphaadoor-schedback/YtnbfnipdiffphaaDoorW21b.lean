/- Layer 21, plain: in a matrix that passes a beat's frame is read as it was made, and no message's frame is one. -/
import Derived.Test.YtnbfnipdiffphaaDoorQ21
import Derived.Test.YtnbfnipdiffphaaDoorLq
import Derived.Test.YtnbfnipdiffphaaDoorHl
namespace Go.Proofs.YtnbfnipdiffphaaDoor.Q21
open Mx
set_option linter.unusedVariables false
theorem ref_of {m : M} (h : Mx.is m = true) : m.ref < 2048 ∧ m.ref % 8 = 0 ∧ m.masters.length ≤ 4 ∧ 1 ≤ m.masters.length ∧ 1 ≤ m.cycles ∧ m.cycles ≤ 8 ∧ (m.level = 1 ∨ m.level = 2) := by
  simp only [Mx.is, Mx.lens, Mx.scal, Mx.within, Mx.power, Bool.and_eq_true, decide_eq_true_eq, Bool.or_eq_true, beq_iff_eq] at h
  omega
theorem id_apart {m : M} (h : Lq.Passes m) {j : Nat} {x : Msg} (hx : m.messages[j]? = some x) : x.id / 8 ≠ m.ref / 8 := by
  have hj : j < m.messages.length := (List.getElem?_eq_some_iff.1 hx).1
  have := h.finds j hj
  unfold Lq.eFind at this
  rw [hx] at this
  intro e
  dsimp only at this
  rw [if_pos (Or.inr e)] at this
  cases this
theorem u8n {n : Int} (h0 : 0 ≤ n) (h1 : n < 256) : ((Pq.u8 n).toNat : Int) = n := by
  have := Pq.u8_mod n
  omega
theorem back {m : M} (h : Lq.Passes m) {r c : Nat} (hr : r < m.masters.length) (hc : (c : Int) < m.cycles) {g : Nat} (hg : g < 65536) (d : Bool) :
    ∃ D : ByteArray, D.size ≤ 8 ∧ build m (r : Int) (c : Int) g d = some (m.ref + r, D) ∧ parse m false (m.ref + r) false D = some ⟨(r : Int), (c : Int), if m.level = 2 then g else 0, if m.level = 2 then d else false⟩ := by
  have hi := h.is
  obtain ⟨h1, h2, h3, h4, h5, h6, h7⟩ := ref_of hi
  have hfit : fits m (r : Int) (c : Int) = true := by
    unfold fits
    rw [hi]
    simp only [Bool.true_and, Bool.and_eq_true, decide_eq_true_eq]
    omega
  have hb : build m (r : Int) (c : Int) g d = some (m.ref + r, ⟨(data m c g d).toArray⟩) := by
    unfold build
    rw [if_pos hfit, Int.toNat_natCast]
  have hc8 : (c : Int) < 256 := by omega
  have hz : (data m c g d).length = if m.level = 2 then 4 else 1 := by unfold data; split <;> rfl
  have hs : (⟨(data m c g d).toArray⟩ : ByteArray).size = if m.level = 2 then 4 else 1 := by
    show (data m c g d).toArray.size = _
    rw [List.size_toArray, hz]
  have h8 : (⟨(data m c g d).toArray⟩ : ByteArray).size ≤ 8 := by rw [hs]; split <;> omega
  have h01 : 1 ≤ (⟨(data m c g d).toArray⟩ : ByteArray).size := by rw [hs]; split <;> omega
  have hF : Fm.isF false (m.ref + r) false (⟨(data m c g d).toArray⟩ : ByteArray).data.toList = true := by
    unfold Fm.isF
    simp only [Bool.and_eq_true, decide_eq_true_eq, Bool.not_false, Bool.true_or, and_true]
    refine ⟨?_, ?_⟩
    · show m.ref + r < 2048
      omega
    · rw [Array.length_toList]; exact h8
  have ht : told m (m.ref + r) ⟨(data m c g d).toArray⟩ = ⟨(r : Int), (c : Int), if m.level = 2 then g else 0, if m.level = 2 then d else false⟩ := by
    have e0 : ((m.ref + r - m.ref : Nat) : Int) = (r : Int) := by omega
    have b0 : (byte ⟨(data m c g d).toArray⟩ 0 : Int) = (c : Int) := by
      have : byte ⟨(data m c g d).toArray⟩ 0 = (Pq.u8 (c : Int)).toNat := by
        unfold data
        split <;> rfl
      rw [this]
      exact u8n (by omega) hc8
    unfold told
    rw [e0, b0, hs]
    by_cases hl : m.level = 2
    · have hd : data m c g d = [Pq.u8 c, (if d then 1 else 0), Pq.u8 ((g : Int) / 256), Pq.u8 (g : Int)] := if_pos hl
      have b1 : (byte ⟨(data m c g d).toArray⟩ 1 == 1) = d := by rw [hd]; cases d <;> rfl
      have b2 : byte ⟨(data m c g d).toArray⟩ 2 = (Pq.u8 ((g : Int) / 256)).toNat := by rw [hd]; rfl
      have b3 : byte ⟨(data m c g d).toArray⟩ 3 = (Pq.u8 (g : Int)).toNat := by rw [hd]; rfl
      have b4 := u8n (n := (g : Int) / 256) (by omega) (by omega)
      have b5 : ((Pq.u8 (g : Int)).toNat : Int) = (g : Int) % 256 := by have := Pq.u8_mod (g : Int); omega
      rw [if_pos ⟨hl, by rw [if_pos hl]⟩, b1, b2, b3, if_pos hl, if_pos hl]
      congr 1
      omega
    · rw [if_neg (fun k => hl k.1), if_neg hl, if_neg hl]
  refine ⟨_, h8, hb, ?_⟩
  have hb2 : build m (r : Int) (c : Int) (if m.level = 2 then g else 0) (if m.level = 2 then d else false) = some (m.ref + r, ⟨(data m c g d).toArray⟩) := by
    unfold build
    rw [if_pos hfit, Int.toNat_natCast]
    congr 2
    by_cases hl : m.level = 2
    · rw [if_pos hl, if_pos hl]
    · rw [if_neg hl, if_neg hl]
      unfold data
      rw [if_neg hl, if_neg hl]
  unfold parse
  rw [hF, ht]
  dsimp only
  rw [hb2, decide_eq_true (show m.ref ≤ m.ref + r by omega), decide_eq_true h01]
  simp
theorem no_find {m : M} (h : Lq.Passes m) {r : Nat} (hr : r < m.masters.length) : Mx.find m false false (m.ref + r) = -1 := by
  obtain ⟨h1, h2, h3, h4, h5, h6, h7⟩ := ref_of h.is
  refine Mx.firstAt_none fun j x hx => ?_
  have := id_apart h hx
  have hn : x.id ≠ m.ref + r := fun e => by rw [e] at this; omega
  simp [hn]
theorem no_beat {m : M} (h : Lq.Passes m) {j : Nat} {x : Msg} (hx : m.messages[j]? = some x) (d : ByteArray) : parse m false x.id false d = none := by
  obtain ⟨h1, h2, h3, h4, h5, h6, h7⟩ := ref_of h.is
  have hne := id_apart h hx
  unfold parse
  split
  · split
    · rename_i hc hb
      exfalso
      unfold build at hb
      split at hb
      · rename_i hf
        have hl := fits_lt hf
        injection hb with hb
        injection hb with hb _
        omega
      · cases hb
    · rfl
  · rfl
end Go.Proofs.YtnbfnipdiffphaaDoor.Q21
