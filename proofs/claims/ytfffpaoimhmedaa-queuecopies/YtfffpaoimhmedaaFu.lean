/- A slice of bytes that came in, as the walk meets it. -/
import Derived.Test.YtfffpaoimhmedaaFo
namespace Go.Proofs.Ytfffpaoimhmedaa
open Go.ChangeShapes Go.WideShapes Go.ChangeAt Go.RowKit
def U8Row (W : World) (s : Option Addr) (len : Nat) (B : Nat → Nat) : Prop := len = 0 ∨ ∃ b off, s = some ⟨b, off, none⟩ ∧ ∀ i, i < len → W.cell? ⟨b, off + i, none⟩ = some (.int .u8 (B i : Int)) ∧ B i < 256
theorem u8Flat : Fo.flat Try.prog 1 5 = some [(0, .int .u8)] := by kernel_rfl
theorem u8row_of_trod {H : Type} {enc : TypeId × Value → H} {w : World} {s : Option Addr} {len cap : Nat} {d : DataW H} {p : List MemPlace} (h : DataW.Trod enc Try.prog w 0 (fun _ => true) true 51 (.slice s len cap) d p) : len ≤ maxLen ∧ ∃ B, U8Row w s len B := by
  obtain ⟨hm, h0 | ⟨b, off, rfl, hc⟩⟩ := Fo.flat_rows 1 (.int .u8) [] 1 Try.underlying51 u8Flat (by kernel_rfl) h
  · exact ⟨hm, fun _ => 0, Or.inl h0⟩
  · have key : ∀ i, ∃ t : Nat, i < len → w.cell? ⟨b, off + i, none⟩ = some (.int .u8 (t : Int)) ∧ t < 256 := fun i => by
      by_cases hi : i < len
      · obtain ⟨v0, c0, n0, rfl, hw⟩ := hc i hi (0, .int .u8) (by simp)
        obtain ⟨h1, h2⟩ := bounds_u8 hw
        refine ⟨n0.toNat, fun _ => ?_⟩
        simp only [Nat.mul_one, Nat.add_zero] at c0
        rw [Int.toNat_of_nonneg h1]
        exact ⟨c0, by omega⟩
      · exact ⟨0, fun k => absurd k hi⟩
    obtain ⟨F, hF⟩ := Classical.axiomOfChoice key
    exact ⟨hm, F, Or.inr ⟨b, off, rfl, hF⟩⟩
end Go.Proofs.Ytfffpaoimhmedaa
