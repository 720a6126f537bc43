/- Layer 19: a row of numbers in a block, stored into, beside objects; bytes that came in. -/
import Derived.Test.YtimcjhnanjeloaaC19
import Derived.Test.YtimcjhnanjeloaaU2
import Derived.Deep.Slices
namespace Go.Proofs.Ytimcjhnanjeloaa
open Go.RowKit Go.WideShapes Go.ChangeShapes Go.ChangeAt
set_option linter.unusedVariables false
def sA (l : List Nat) : Array Value := (sL l).toArray
theorem sL_at {l : List Nat} {k x : Nat} (h : l[k]? = some x) : (sA l)[k]? = some (.int .i64 (x : Int)) := by
  unfold sA sL
  rw [List.getElem?_toArray, List.getElem?_map, h]
  rfl
theorem sA_set (l : List Nat) (k x : Nat) : (sA l).setIfInBounds k (.int .i64 (x : Int)) = sA (l.set k x) := by
  unfold sA sL
  rw [List.setIfInBounds_toArray, List.map_set]
namespace Oq
section
variable {P : Program} {σ τ : Type} {At : Ob.A σ} {Bt : Ob.A τ} {W w : World} {p q g k : Nat} {s : σ} {t : τ} {cs : Array Value} {T : TypeId} {v : Value}
/-- The one row beside, stored into. -/
theorem O2.store (O : Ob.Is At) (O' : Ob.Is Bt) (h : O2 At Bt W w p s q t [(g, .cells cs T)]) (hg : W.heap.size ≤ g) : O2 At Bt W (w.setCell ⟨g, k, none⟩ v) p s q t [(g, .cells (cs.setIfInBounds k v) T)] := by
  obtain ⟨F, G, h1, h2, b1, b2, d, hw, hr⟩ := h
  obtain ⟨r1, r2, r3⟩ := hr _ (List.mem_singleton.2 rfl)
  dsimp only at r1 r2 r3
  have hk : Kept (fun j => j = g) w (w.setCell ⟨g, k, none⟩ v) := Kept.set _ _ _ rfl
  refine ⟨F, G, O.on h1 (fun j hj => hk.block j (O.lt h1 j hj) (fun e => r2 (e ▸ hj))), O'.on h2 (fun j hj => hk.block j (O'.lt h2 j hj) (fun e => r3 (e ▸ hj))), b1, b2, d, hw.setCell hg _, fun x hx => ?_⟩
  rw [List.mem_singleton.1 hx]
  exact ⟨heap_setCell_same _ _ _ _ _ _ r1, r2, r3⟩
end
section
variable {P : Program} {σ τ : Type} {At : Ob.A σ} {Bt : Ob.A τ} {W w : World} {p q : Nat} {s : σ} {t : τ} {R : Rs} {f : FuncId} {args : Array Value} {v : Value}
/-- Looked at in whatever world is made of this one. -/
theorem O2.looks (O : Ob.Is At) (c : ∀ w F, At w p F s → Ob.Looks P f args w v) (h : O2 At Bt W w p s q t R) : ∀ w', Below w.heap.size w w' → Calls P f args w' fun e w'' => e = .returned v ∧ Below w'.heap.size w' w'' := fun w' hb => by
  obtain ⟨F, G, h1, _⟩ := h
  exact c w' F (O.on h1 (fun g hg => hb.block g (O.lt h1 g hg)))
end
end Oq
/-- What a walk is told of a slice of bytes that came in. -/
def IsU19 (w : World) (a : Option Addr) (len : Nat) (B : Nat → Nat) : Prop := ∀ i, i < len → ∃ b off, a = some ⟨b, off, none⟩ ∧ w.cell? ⟨b, off + i, none⟩ = some (.int .u8 (B i : Int)) ∧ B i < 256
theorem u19_of_trod {H : Type} {enc : TypeId × Value → H} {w : World} {s : Option Addr} {len cap : Nat} {d : DataW H} {p : List MemPlace} (h : DataW.Trod enc Try.prog w 0 (fun _ => true) true 22 (.slice s len cap) d p) : ∃ B, IsU19 w s len B := by
  obtain ⟨fuel, hf⟩ := h
  rcases open_ints Try.underlying22 Try.underlying5 (by kernel_rfl) hf with ⟨hcs, _⟩ | ⟨x, l, c, zs, hcs, _, hl, hm, hz, _, hcell, hwf⟩
  · simp [Value.cells] at hcs
    obtain ⟨rfl, rfl, rfl⟩ := hcs
    exact ⟨fun _ => 0, fun i hi => by omega⟩
  · simp [Value.cells] at hcs
    obtain ⟨rfl, rfl, rfl⟩ := hcs
    rw [if_pos rfl] at hz
    refine ⟨fun i => (zs.getD i 0).toNat, fun i hi => ?_⟩
    have hi' : i < zs.length := by omega
    have hw := hwf zs[i] (List.getElem_mem hi')
    have e : zs.getD i 0 = zs[i] := by rw [List.getD_eq_getElem?_getD, List.getElem?_eq_getElem hi']; rfl
    have hc := hcell i hi'
    obtain ⟨n, hn, hn2⟩ := natU8w hw
    obtain ⟨b, off, spot⟩ := x
    have hspot : spot = none := by simpa [Addr.add] using World.cell?_spot (hcell 0 (by omega))
    subst hspot
    rw [Go.WideShapes.add_plain, e, hn] at hc
    refine ⟨b, off, rfl, ?_, ?_⟩
    · show _ = some (Value.int .u8 (((zs.getD i 0).toNat : Nat) : Int))
      rw [hc, e, hn]
      rfl
    · show (zs.getD i 0).toNat < 256
      rw [e, hn]
      exact hn2
end Go.Proofs.Ytimcjhnanjeloaa
