/- Three nodes apart, and lists of events apart from them. -/
import Derived.Test.YthappkhiiopfgaaDoorNe
import Derived.Test.YthappkhiiopfgaaDoorMk
namespace Go.Proofs.YthappkhiiopfgaaDoor
open Go.RowKit
set_option linter.unusedVariables false
variable {At : World → Nat → (Nat → Prop) → Mm.St → Prop}
/-- Three nodes apart, all of them where P lets; each other block that lies where P lets is none of theirs if E says so. -/
def Thr (At : World → Nat → (Nat → Prop) → Mm.St → Prop) (P : Nat → Prop) (w : World) (x : Nat) (a : Mm.St) (y : Nat) (b : Mm.St) (z : Nat) (c : Mm.St) (E : Nat → Prop) : Prop :=
  ∃ F G H, At w x F a ∧ At w y G b ∧ At w z H c ∧ (∀ g, F g → ¬ G g) ∧ (∀ g, F g → ¬ H g) ∧ (∀ g, G g → ¬ H g) ∧ (∀ g, F g → P g) ∧ (∀ g, G g → P g) ∧ (∀ g, H g → P g) ∧ ∀ g, E g → ¬ F g ∧ ¬ G g ∧ ¬ H g
theorem Thr.rot {P E : Nat → Prop} {w : World} {x y z : Nat} {a b c : Mm.St} (h : Thr At P w x a y b z c E) : Thr At P w y b z c x a E := by
  obtain ⟨F, G, H, h1, h2, h3, d1, d2, d3, p1, p2, p3, e⟩ := h
  exact ⟨G, H, F, h2, h3, h1, d3, fun g hg hf => d1 g hf hg, fun g hh hf => d2 g hf hh, p2, p3, p1, fun g hg => ⟨(e g hg).2.1, (e g hg).2.2, (e g hg).1⟩⟩
theorem Thr.free {P E E' : Nat → Prop} {w : World} {x y z : Nat} {a b c : Mm.St} (h : Thr At P w x a y b z c E) (hE : ∀ g, E' g → E g) : Thr At P w x a y b z c E' := by
  obtain ⟨F, G, H, h1, h2, h3, d1, d2, d3, p1, p2, p3, e⟩ := h
  exact ⟨F, G, H, h1, h2, h3, d1, d2, d3, p1, p2, p3, fun g hg => e g (hE g hg)⟩
/-- What touches none of their blocks leaves them as they are. -/
theorem Thr.on (S : MacSpec At) {P E E' : Nat → Prop} {w w' : World} {x y z : Nat} {a b c : Mm.St} (h : Thr At P w x a y b z c E) (hb : ∀ k, k < w.heap.size → ¬ E k → w'.heap[k]? = w.heap[k]?) (hE : ∀ g, E' g → E g ∨ w.heap.size ≤ g) : Thr At P w' x a y b z c E' := by
  obtain ⟨F, G, H, h1, h2, h3, d1, d2, d3, p1, p2, p3, e⟩ := h
  refine ⟨F, G, H, S.on h1 (fun g hg => hb g (S.lt h1 g hg) (fun k => (e g k).1 hg)), S.on h2 (fun g hg => hb g (S.lt h2 g hg) (fun k => (e g k).2.1 hg)), S.on h3 (fun g hg => hb g (S.lt h3 g hg) (fun k => (e g k).2.2 hg)), d1, d2, d3, p1, p2, p3, fun g hg => ?_⟩
  rcases hE g hg with k | k
  · exact e g k
  · exact ⟨fun q => by have := S.lt h1 g q; omega, fun q => by have := S.lt h2 g q; omega, fun q => by have := S.lt h3 g q; omega⟩
theorem Thr.step (S : MacSpec At) {W : World} {P E E' F G H F' : Nat → Prop} {w w' : World} {x y z : Nat} {b c a' : Mm.St} (hC : Ctx W P w) (h2 : At w y G b) (h3 : At w z H c) (d1 : ∀ g, F g → ¬ G g) (d2 : ∀ g, F g → ¬ H g) (d3 : ∀ g, G g → ¬ H g) (p1 : ∀ g, F g → P g) (p2 : ∀ g, G g → P g) (p3 : ∀ g, H g → P g)
    (e : ∀ g, E g → ¬ F g ∧ ¬ G g ∧ ¬ H g) (hA : At w' x F' a') (hs : ∀ g, F' g → F g ∨ w.heap.size ≤ g) (hk : Kept F w w') (hE : ∀ g, E' g → (E g ∧ g < w.heap.size) ∨ (w.heap.size ≤ g ∧ ¬ F' g)) : Thr At P w' x a' y b z c E' ∧ Ctx W P w' ∧ Kept P w w' ∧ ∀ g, E g → g < w.heap.size → w'.heap[g]? = w.heap[g]? := by
  refine ⟨⟨F', G, H, hA, S.on h2 (fun g hg => hk.block g (S.lt h2 g hg) (fun k => d1 g k hg)), S.on h3 (fun g hg => hk.block g (S.lt h3 g hg) (fun k => d2 g k hg)), fun g hf hg => ?_, fun g hf hh => ?_, d3, fun g hg => (hs g hg).elim (p1 g) (hC.room g), p2, p3, fun g hg => ?_⟩, hC.next (hk.mono p1), hk.mono p1, fun g hg hlt => hk.block g hlt (e g hg).1⟩
  · exact (hs g hf).elim (fun k => d1 g k hg) (fun k => by have := S.lt h2 g hg; omega)
  · exact (hs g hf).elim (fun k => d2 g k hh) (fun k => by have := S.lt h3 g hh; omega)
  · rcases hE g hg with ⟨k, hlt⟩ | ⟨k, hn⟩
    · exact ⟨fun q => (hs g q).elim (e g k).1 (fun r => by omega), (e g k).2.1, (e g k).2.2⟩
    · exact ⟨hn, fun q => by have := S.lt h2 g q; omega, fun q => by have := S.lt h3 g q; omega⟩
theorem thr_drive (S : MacSpec At) {W : World} {P E : Nat → Prop} {w : World} {x y z : Nat} {a b c : Mm.St} {v : Int} (hv : (if Mm.drive a then 49 else 48) = v) (h : Thr At P w x a y b z c E) (hC : Ctx W P w) :
    Calls Tryd.prog 12 #[bptr x] w fun e w' => e = .returned (.int .u8 v) ∧ Thr At P w' x a y b z c E ∧ Ctx W P w' ∧ Kept P w w' := by
  have h' := h
  obtain ⟨F, G, H, h1, h2, h3, d1, d2, d3, p1, p2, p3, e⟩ := h
  have hd := S.drive w x F a h1 hC.tab
  rw [hv] at hd
  exact hd.mono fun e w' ⟨he, hb⟩ => ⟨he, h'.on S (fun k hk _ => hb.block k hk) (fun g hg => Or.inl hg), hC.more hb, Kept.of_below hb⟩
/-- A bit for the first one: what it tells lies apart from all three; E's blocks are as they were. -/
theorem thr_sample (S : MacSpec At) {W : World} {P E : Nat → Prop} {w : World} {x y z : Nat} {a b c : Mm.St} (u : UInt8) {a' : Mm.St} {l : List Mm.Ev} (hm : Mm.sample a (u != 48) = (a', l)) (h : Thr At P w x a y b z c E) (hC : Ctx W P w) :
    Calls Tryd.prog 11 #[bptr x, .int .u8 (u.toNat : Int)] w fun e w' => ∃ s cap, e = .returned (.slice s l.length cap) ∧ EvAt w.heap.size w' s cap l ∧ Thr At P w' x a' y b z c (fun g => (E g ∧ g < w.heap.size) ∨ ∃ o, s = some ⟨g, o, none⟩) ∧ Ctx W P w' ∧ Kept P w w' ∧ ∀ g, E g → g < w.heap.size → w'.heap[g]? = w.heap[g]? := by
  obtain ⟨F, G, H, h1, h2, h3, d1, d2, d3, p1, p2, p3, e⟩ := h
  have hd := S.sample w x F a u h1 hC.tab
  rw [hm] at hd
  refine hd.mono ?_
  rintro e' w' ⟨s, cap, rfl, hE, F', hA, hs, hn, hk⟩
  have hx := Thr.step S (E' := fun g => (E g ∧ g < w.heap.size) ∨ ∃ o, s = some ⟨g, o, none⟩) hC h2 h3 d1 d2 d3 p1 p2 p3 e hA hs hk (fun g hg => by
    rcases hg with k | ⟨o, k⟩
    · exact Or.inl k
    · exact Or.inr ⟨(hE.zero g o k).2.1, hn g o k⟩)
  exact ⟨s, cap, rfl, hE, hx⟩
/-- Two nodes apart. -/
def Dbl (At : World → Nat → (Nat → Prop) → Mm.St → Prop) (P : Nat → Prop) (w : World) (x : Nat) (a : Mm.St) (y : Nat) (b : Mm.St) : Prop := ∃ F G, At w x F a ∧ At w y G b ∧ (∀ g, F g → ¬ G g) ∧ (∀ g, F g → P g) ∧ (∀ g, G g → P g)
theorem Dbl.swap {P : Nat → Prop} {w : World} {x y : Nat} {a b : Mm.St} (h : Dbl At P w x a y b) : Dbl At P w y b x a := by
  obtain ⟨F, G, h1, h2, d, p1, p2⟩ := h
  exact ⟨G, F, h2, h1, fun g hg hf => d g hf hg, p2, p1⟩
theorem Dbl.step (S : MacSpec At) {W : World} {P F G F' : Nat → Prop} {w w' : World} {x y : Nat} {b a' : Mm.St} (hC : Ctx W P w) (h2 : At w y G b) (d1 : ∀ g, F g → ¬ G g) (p1 : ∀ g, F g → P g) (p2 : ∀ g, G g → P g)
    (hA : At w' x F' a') (hs : ∀ g, F' g → F g ∨ w.heap.size ≤ g) (hk : Kept F w w') : Dbl At P w' x a' y b ∧ Ctx W P w' ∧ Kept P w w' := by
  refine ⟨⟨F', G, hA, S.on h2 (fun g hg => hk.block g (S.lt h2 g hg) (fun k => d1 g k hg)), fun g hf hg => ?_, fun g hg => (hs g hg).elim (p1 g) (hC.room g), p2⟩, hC.next (hk.mono p1), hk.mono p1⟩
  exact (hs g hf).elim (fun k => d1 g k hg) (fun k => by have := S.lt h2 g hg; omega)
theorem dbl_new (S : MacSpec At) {W : World} {P : Nat → Prop} {w : World} {x : Nat} {a : Mm.St} (h : OwnM At P w x a) (hC : Ctx W P w) :
    Calls Tryd.prog 10 #[] w fun e w' => ∃ y, e = .returned (bptr y) ∧ Dbl At P w' x a y Mm.fresh ∧ Ctx W P w' ∧ Kept P w w' := by
  obtain ⟨F, h1, p1⟩ := h
  exact (S.new w hC.tab).mono fun e w' ⟨y, G, he, hA, hG, hb⟩ => ⟨y, he, ⟨F, G, S.on h1 (fun g hg => hb.block g (S.lt h1 g hg)), hA, fun g hf hg => by have := S.lt h1 g hf; have := hG g hg; omega, p1, fun g hg => hC.room g (hG g hg)⟩, hC.more hb, Kept.of_below hb⟩
theorem dbl_sample (S : MacSpec At) {W : World} {P : Nat → Prop} {w : World} {x y : Nat} {a b : Mm.St} (u : UInt8) {a' : Mm.St} {l : List Mm.Ev} (hm : Mm.sample a (u != 48) = (a', l)) (h : Dbl At P w x a y b) (hC : Ctx W P w) :
    Calls Tryd.prog 11 #[bptr x, .int .u8 (u.toNat : Int)] w fun e w' => ∃ s cap, e = .returned (.slice s l.length cap) ∧ Dbl At P w' x a' y b ∧ Ctx W P w' ∧ Kept P w w' := by
  obtain ⟨F, G, h1, h2, d, p1, p2⟩ := h
  have hd := S.sample w x F a u h1 hC.tab
  rw [hm] at hd
  exact hd.mono fun e w' ⟨s, cap, he, hE, F', hA, hs, hn, hk⟩ => ⟨s, cap, he, Dbl.step S hC h2 d p1 p2 hA hs hk⟩
theorem dbl_ask (S : MacSpec At) {W : World} {P : Nat → Prop} {w : World} {x y : Nat} {a b : Mm.St} (f : Cm.Fr) {k : Nat} {a' : Mm.St} (hm : Mm.ask a f = (k, a')) (n1 : f.2.1 < 4294967296) (n2 : f.2.2.2.length ≤ 1000) (h : Dbl At P w x a y b) (hC : Ctx W P w) :
    Calls Tryd.prog 15 #[bptr x, frV f] w fun e w' => e = .returned (.int .i64 (k : Int)) ∧ Dbl At P w' x a' y b ∧ Ctx W P w' ∧ Kept P w w' := by
  obtain ⟨F, G, h1, h2, d, p1, p2⟩ := h
  have hd := S.ask w x F a f h1 hC.tab n1 n2
  rw [hm] at hd
  exact hd.mono fun e w' ⟨he, F', hA, hs, hk⟩ => ⟨he, Dbl.step S hC h2 d p1 p2 hA hs hk⟩
theorem thr_new (S : MacSpec At) {W : World} {P : Nat → Prop} {w : World} {x y : Nat} {a b : Mm.St} (h : Dbl At P w x a y b) (hC : Ctx W P w) :
    Calls Tryd.prog 10 #[] w fun e w' => ∃ z, e = .returned (bptr z) ∧ Thr At P w' x a y b z Mm.fresh (fun _ => False) ∧ Ctx W P w' ∧ Kept P w w' := by
  obtain ⟨F, G, h1, h2, d, p1, p2⟩ := h
  exact (S.new w hC.tab).mono fun e w' ⟨z, H, he, hA, hH, hb⟩ => ⟨z, he, ⟨F, G, H, S.on h1 (fun g hg => hb.block g (S.lt h1 g hg)), S.on h2 (fun g hg => hb.block g (S.lt h2 g hg)), hA, d, fun g hf hg => by have := S.lt h1 g hf; have := hH g hg; omega, fun g hf hg => by have := S.lt h2 g hf; have := hH g hg; omega, p1, p2, fun g hg => hC.room g (hH g hg), fun g hg => hg.elim⟩, hC.more hb, Kept.of_below hb⟩
/-- What lies behind all of them is none of theirs. -/
theorem Thr.avoid (S : MacSpec At) {P E : Nat → Prop} {w : World} {x y z : Nat} {a b c : Mm.St} (h : Thr At P w x a y b z c E) (k : Nat) (hk : w.heap.size ≤ k) : Thr At (fun g => P g ∧ g ≠ k) w x a y b z c E := by
  obtain ⟨F, G, H, h1, h2, h3, d1, d2, d3, p1, p2, p3, e⟩ := h
  exact ⟨F, G, H, h1, h2, h3, d1, d2, d3, fun g hg => ⟨p1 g hg, by have := S.lt h1 g hg; omega⟩, fun g hg => ⟨p2 g hg, by have := S.lt h2 g hg; omega⟩, fun g hg => ⟨p3 g hg, by have := S.lt h3 g hg; omega⟩, e⟩
/-- What is written where P does not let leaves them as they are. -/
theorem Thr.keep (S : MacSpec At) {P E : Nat → Prop} {w w' : World} {x y z : Nat} {a b c : Mm.St} (h : Thr At P w x a y b z c E) (hb : ∀ k, k < w.heap.size → P k → w'.heap[k]? = w.heap[k]?) : Thr At P w' x a y b z c E := by
  obtain ⟨F, G, H, h1, h2, h3, d1, d2, d3, p1, p2, p3, e⟩ := h
  exact ⟨F, G, H, S.on h1 (fun g hg => hb g (S.lt h1 g hg) (p1 g hg)), S.on h2 (fun g hg => hb g (S.lt h2 g hg) (p2 g hg)), S.on h3 (fun g hg => hb g (S.lt h3 g hg) (p3 g hg)), d1, d2, d3, p1, p2, p3, e⟩
/-- Behind an append to a list of events that is none of theirs. -/
theorem Thr.grown (S : MacSpec At) {W : World} {P E : Nat → Prop} {w w' : World} {x y z : Nat} {a b c : Mm.St} {s s' : Option Addr} (h : Thr At P w x a y b z c E) (hC : Ctx W P w) (g : w.grownBy w' (s.map (·.block))) (hs : ∀ k o, s = some ⟨k, o, none⟩ → E k ∧ P k) (hz : ∀ q, s = some q → q.spot = none) (hn : ∀ k o, s' = some ⟨k, o, none⟩ → s = some ⟨k, o, none⟩ ∨ w.heap.size ≤ k) :
    Thr At P w' x a y b z c (fun k => ∃ o, s' = some ⟨k, o, none⟩) ∧ Ctx W P w' ∧ Kept P w w' := by
  have hE : ∀ k, some k = s.map (·.block) → E k ∧ P k := fun k hk => by
    cases s with
    | none => cases hk
    | some q =>
      obtain ⟨qb, qo, qs⟩ := q
      have := hz _ rfl
      dsimp only at this
      subst this
      have e : k = qb := by simpa using hk
      subst e
      exact hs _ _ rfl
  have hk : Kept P w w' := ⟨g.os, g.tape, g.output, g.size, fun i hi hn => g.block i hi (fun e => hn (hE i e).2)⟩
  refine ⟨h.on S (fun k hk hn => g.block k hk (fun e => hn (hE k e).1)) (fun k hk => ?_), hC.next hk, hk⟩
  obtain ⟨o, ho⟩ := hk
  rcases hn k o ho with q | q
  · exact Or.inl (hs k o q).1
  · exact Or.inr q
theorem Lies.setAll {w : World} {g : Nat} {x : Bool} {n : Nat} {r : Bool} {d : ByteArray} (h : Lies w g x n r d) (x' : Bool) (n' : Nat) (r' : Bool) (d' : ByteArray) : Lies ((((w.setCell ⟨g, 0, none⟩ (.bool x')).setCell ⟨g, 1, none⟩ (.int .u32 (n' : Int))).setCell ⟨g, 2, none⟩ (.bool r')).setCell ⟨g, 3, none⟩ (.string d')) g x' n' r' d' := by
  have h0 := heap_setCell_same w g 0 _ _ (.bool x') h
  have h1 := heap_setCell_same _ g 1 _ _ (.int .u32 (n' : Int)) h0
  have h2 := heap_setCell_same _ g 2 _ _ (.bool r') h1
  exact heap_setCell_same _ g 3 _ _ (.string d') h2
theorem set4_other {w : World} {g : Nat} (a b c d : Value) (k : Nat) (hk : k ≠ g) : ((((w.setCell ⟨g, 0, none⟩ a).setCell ⟨g, 1, none⟩ b).setCell ⟨g, 2, none⟩ c).setCell ⟨g, 3, none⟩ d).heap[k]? = w.heap[k]? := by
  rw [Below.heap_setCell _ _ _ _ hk, Below.heap_setCell _ _ _ _ hk, Below.heap_setCell _ _ _ _ hk, Below.heap_setCell _ _ _ _ hk]
theorem Ctx.set4 {W w : World} {P : Nat → Prop} (hC : Ctx W P w) {g : Nat} (hg : W.heap.size ≤ g) (a b c d : Value) : Ctx W P ((((w.setCell ⟨g, 0, none⟩ a).setCell ⟨g, 1, none⟩ b).setCell ⟨g, 2, none⟩ c).setCell ⟨g, 3, none⟩ d) :=
  ⟨(((hC.below.setCell hg a).setCell hg b).setCell hg c).setCell hg d, fun k hk => hC.room k (by simpa [World.setCell] using hk), hC.low, hC.tabW⟩
end Go.Proofs.YthappkhiiopfgaaDoor
