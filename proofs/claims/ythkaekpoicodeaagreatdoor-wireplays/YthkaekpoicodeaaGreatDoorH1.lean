/- Nodes on one wire: what the wire's methods are said to do, whatever it is made of. -/
import Derived.Test.YthkaekpoicodeaaGreatDoorUi
import Derived.Test.YthkaekpoicodeaaGreatDoorM4
import Derived.Test.YthkaekpoicodeaaGreatDoorNe
import Derived.Test.YthkaekpoicodeaaGreatDoorOb
import Derived.Test.YthkaekpoicodeaaGreatDoorGi
namespace Go.Proofs.YthkaekpoicodeaaGreatDoor
open Go.RowKit
set_option linter.unusedVariables false
/-- Events that can be read: where they begin is left open. -/
def EvIn (w : World) (s : Option Addr) (cap : Nat) (l : List Mm.Ev) : Prop :=
  l.length ≤ cap ∧ cap ≤ maxLen ∧ (l = [] ∨ ∃ g o, s = some ⟨g, o, none⟩ ∧ g < w.heap.size ∧ ∀ k v, (evC l)[k]? = some v → w.cell? ⟨g, o + k, none⟩ = some v)
theorem EvIn.on {w w' : World} {s : Option Addr} {cap : Nat} {l : List Mm.Ev} (h : EvIn w s cap l) (hb : Below w.heap.size w w') : EvIn w' s cap l := by
  refine ⟨h.1, h.2.1, ?_⟩
  rcases h.2.2 with h0 | ⟨g, o, hs, hg, hc⟩
  · exact Or.inl h0
  · exact Or.inr ⟨g, o, hs, Nat.lt_of_lt_of_le hg hb.size, fun k v hk => (hb.cell (p := ⟨g, o + k, none⟩) hg).trans (hc k v hk)⟩
/-- The cells of the event at a place. -/
theorem EvIn.at {w : World} {s : Option Addr} {cap : Nat} {l : List Mm.Ev} (h : EvIn w s cap l) (i : Nat) (v : Mm.Ev) (hv : l[i]? = some v) :
    ∃ g o, s = some ⟨g, o, none⟩ ∧ g < w.heap.size ∧ ∀ j u, (evV v)[j]? = some u → w.cell? ⟨g, o + (i * 6 + j), none⟩ = some u := by
  rcases h.2.2 with h0 | ⟨g, o, hs, hg, hc⟩
  · rw [h0] at hv; cases hv
  · refine ⟨g, o, hs, hg, fun j u hu => hc _ u ?_⟩
    have hj : j < 6 := (List.getElem?_eq_some_iff.1 hu).1
    clear hc h hs hg
    induction l generalizing i with
    | nil => cases hv
    | cons a l ih =>
      have hl : (evV a).length = 6 := rfl
      have e : evC (a :: l) = evV a ++ evC l := rfl
      rw [e]
      cases i with
      | zero =>
        have h' : a = v := by simpa using hv
        subst h'
        rw [List.getElem?_append_left (by omega), Nat.zero_mul, Nat.zero_add]
        exact hu
      | succ i =>
        rw [List.getElem?_append_right (by omega), show (i + 1) * 6 + j - (evV a).length = i * 6 + j by omega]
        exact ih i (by simpa using hv)
structure WireSpec (At : Ob.A Mm.Wi) : Prop where
  is : Ob.Is At
  sz : ∀ {w : World} {p : Nat} {F : Nat → Prop} {W : Mm.Wi}, At w p F W → W.qs.length = W.ms.length ∧ W.hs.length = W.ms.length ∧ 1 ≤ W.ms.length ∧ W.ms.length ≤ 8
  new : ∀ (w : World) (n : Int), Tab w → (Lit.int .i64 n).wf = true → Calls Tryz.prog 5 #[.int .i64 n] w fun e w' => ∃ p F qs qb, e = .returned (bptr p) ∧ At w' p F (Mm.wnew (Mm.heldN n) qs qb) ∧ (∀ g, F g → w.heap.size ≤ g) ∧ Below w.heap.size w w'
  cnt : ∀ (w : World) (p : Nat) (F : Nat → Prop) (W : Mm.Wi), At w p F W → Ob.Looks Tryz.prog 7 #[bptr p] w (.int .i64 (W.ms.length : Int))
  ask : ∀ (w : World) (p : Nat) (F : Nat → Prop) (W : Mm.Wi) (who : Int) (f : Cm.Fr), At w p F W → Tab w → (Lit.int .i64 who).wf = true → f.2.1 < 4294967296 → f.2.2.2.length ≤ 1000 →
    Ob.Turns Tryz.prog At 9 #[bptr p, .int .i64 who, frV f] w p F (Mm.wask W who f).2 (.int .i64 ((Mm.wask W who f).1 : Int))
  step : ∀ (w : World) (p : Nat) (F : Nat → Prop) (W : Mm.Wi) (fl : Bool), At w p F W → Tab w → W.bs.length ≤ 100000 →
    Calls Tryz.prog 11 #[bptr p, .bool fl] w fun e w' => ∃ s cap, e = .returned (.slice s (Mm.wtold W fl).length cap) ∧ EvIn w' s cap (Mm.wtold W fl) ∧ ∃ F', At w' p F' (Mm.wnext W fl) ∧ (∀ g, F' g → F g ∨ w.heap.size ≤ g) ∧ Kept F w w'
  macOf : ∀ (w : World) (p : Nat) (F : Nat → Prop) (W : Mm.Wi) (i : Nat), At w p F W → i < W.ms.length → Ob.Looks Tryz.prog 14 #[bptr p, .int .i64 (i : Int)] w (bptr (W.qs.getD i 0))
  macNil : ∀ (w : World) (p : Nat) (F : Nat → Prop) (W : Mm.Wi) (i : Int), At w p F W → (Lit.int .i64 i).wf = true → ¬ (0 ≤ i ∧ i < W.ms.length) → Ob.Looks Tryz.prog 14 #[bptr p, .int .i64 i] w (.pointer none)
  busy : ∀ (w : World) (p : Nat) (F : Nat → Prop) (W : Mm.Wi) (i : Nat) (m : Mm.St), At w p F W → Tab w → W.ms[i]? = some m → Ob.Looks Tryz.prog 37 #[bptr (W.qs.getD i 0)] w (.bool (Mm.busy m))
  counts : ∀ (w : World) (p : Nat) (F : Nat → Prop) (W : Mm.Wi) (i : Nat) (m : Mm.St), At w p F W → Tab w → W.ms[i]? = some m → Ob.Looks Tryz.prog 15 #[bptr (W.qs.getD i 0)] w (.agg #[.int .i64 m.cs, .int .i64 m.cg])
  busOf : ∀ (w : World) (p : Nat) (F : Nat → Prop) (W : Mm.Wi), At w p F W → Ob.Looks Tryz.prog 16 #[bptr p] w (bptr W.qb)
  trace : ∀ (w : World) (p : Nat) (F : Nat → Prop) (W : Mm.Wi), At w p F W → W.bs.length ≤ 100000 → Ob.Looks Tryz.prog 17 #[bptr W.qb] w (.string ⟨(Bm.row (W.bs.drop (W.bs.length - 4000))).toArray⟩)
  heard : ∀ (w : World) (p : Nat) (F : Nat → Prop) (W : Mm.Wi) (i : Int), At w p F W → (Lit.int .i64 i).wf = true →
    Calls Tryz.prog 13 #[bptr p, .int .i64 i] w fun e w' => ∃ s cap, e = .returned (.slice s (if 0 ≤ i ∧ i < W.ms.length then W.hs.getD i.toNat [] else []).length cap) ∧ EvIn w' s cap (if 0 ≤ i ∧ i < W.ms.length then W.hs.getD i.toNat [] else []) ∧ Below w.heap.size w w'
  heardNo : ∀ (w : World) (p : Nat) (F : Nat → Prop) (W : Mm.Wi) (i : Int), At w p F W → (Lit.int .i64 i).wf = true → ¬ (0 ≤ i ∧ i < W.ms.length) → Ob.Looks Tryz.prog 13 #[bptr p, .int .i64 i] w (.slice none 0 0)
  copy : ∀ (w : World) (p : Nat) (F : Nat → Prop) (W : Mm.Wi), At w p F W → Tab w → W.bs.length ≤ 100000 →
    Calls Tryz.prog 18 #[bptr p] w fun e w' => ∃ q G qs qb, e = .returned (bptr q) ∧ At w' q G { W with qs := qs, qb := qb } ∧ (∀ g, G g → w.heap.size ≤ g) ∧ Below w.heap.size w w'
variable {At : Ob.A Mm.Wi}
/-- The wire, all of it where it may write. -/
def OwnW (At : Ob.A Mm.Wi) (P : Nat → Prop) (w : World) (p : Nat) (W : Mm.Wi) : Prop := ∃ F, At w p F W ∧ ∀ g, F g → P g
theorem OwnW.on (S : WireSpec At) {P : Nat → Prop} {w w' : World} {p : Nat} {W : Mm.Wi} (h : OwnW At P w p W) (hb : Below w.heap.size w w') : OwnW At P w' p W := by
  obtain ⟨F, hA, hF⟩ := h
  exact ⟨F, S.is.on hA (fun g hg => hb.block g (S.is.lt hA g hg)), hF⟩
theorem OwnW.avoid (S : WireSpec At) {P : Nat → Prop} {w : World} {p : Nat} {W : Mm.Wi} (h : OwnW At P w p W) (b : Nat) (hb : w.heap.size ≤ b) : OwnW At (fun g => P g ∧ g ≠ b) w p W := by
  obtain ⟨F, hA, hF⟩ := h
  exact ⟨F, hA, fun g hg => ⟨hF g hg, by have := S.is.lt hA g hg; omega⟩⟩
theorem OwnW.sz (S : WireSpec At) {P : Nat → Prop} {w : World} {p : Nat} {W : Mm.Wi} (h : OwnW At P w p W) : W.qs.length = W.ms.length ∧ W.hs.length = W.ms.length ∧ 1 ≤ W.ms.length ∧ W.ms.length ≤ 8 := by
  obtain ⟨F, hA, hF⟩ := h
  exact S.sz hA
theorem ow_new (S : WireSpec At) {W0 : World} {P : Nat → Prop} {w : World} (n : Int) (hn : (Lit.int .i64 n).wf = true) (hC : Ctx W0 P w) : Calls Tryz.prog 5 #[.int .i64 n] w fun e w' => ∃ p qs qb, e = .returned (bptr p) ∧ OwnW At P w' p (Mm.wnew (Mm.heldN n) qs qb) ∧ Ctx W0 P w' ∧ Kept P w w' :=
  (S.new w n hC.tab hn).mono fun e w' ⟨p, F, qs, qb, he, hA, hF, hb⟩ => ⟨p, qs, qb, he, ⟨F, hA, fun g hg => hC.room g (hF g hg)⟩, hC.more hb, Kept.of_below hb⟩
theorem ow_ask (S : WireSpec At) {W0 : World} {P : Nat → Prop} {w : World} {p : Nat} {W : Mm.Wi} (who : Int) (f : Cm.Fr) {k : Nat} {W' : Mm.Wi} (hm : Mm.wask W who f = (k, W')) (hw : (Lit.int .i64 who).wf = true) (h1 : f.2.1 < 4294967296) (h2 : f.2.2.2.length ≤ 1000) (h : OwnW At P w p W) (hC : Ctx W0 P w) :
    Calls Tryz.prog 9 #[bptr p, .int .i64 who, frV f] w fun e w' => e = .returned (.int .i64 (k : Int)) ∧ OwnW At P w' p W' ∧ Ctx W0 P w' ∧ Kept P w w' := by
  obtain ⟨F, hA, hF⟩ := h
  have h := S.ask w p F W who f hA hC.tab hw h1 h2
  rw [hm] at h
  exact h.mono fun e w' ⟨he, F', hA', hs, hk⟩ => ⟨he, ⟨F', hA', fun g hg => (hs g hg).elim (hF g) (hC.room g)⟩, hC.next (hk.mono hF), hk.mono hF⟩
theorem ow_step (S : WireSpec At) {W0 : World} {P : Nat → Prop} {w : World} {p : Nat} {W : Mm.Wi} (fl : Bool) (hl : W.bs.length ≤ 100000) (h : OwnW At P w p W) (hC : Ctx W0 P w) :
    Calls Tryz.prog 11 #[bptr p, .bool fl] w fun e w' => ∃ s cap, e = .returned (.slice s (Mm.wtold W fl).length cap) ∧ EvIn w' s cap (Mm.wtold W fl) ∧ OwnW At P w' p (Mm.wnext W fl) ∧ Ctx W0 P w' ∧ Kept P w w' := by
  obtain ⟨F, hA, hF⟩ := h
  exact (S.step w p F W fl hA hC.tab hl).mono fun e w' ⟨s, cap, he, hE, F', hA', hs, hk⟩ => ⟨s, cap, he, hE, ⟨F', hA', fun g hg => (hs g hg).elim (hF g) (hC.room g)⟩, hC.next (hk.mono hF), hk.mono hF⟩
theorem ow_heard (S : WireSpec At) {P : Nat → Prop} {w : World} {p : Nat} {W : Mm.Wi} (i : Nat) (l : List Mm.Ev) (hi : (Lit.int .i64 (i : Int)).wf = true) (hl : (if i < W.ms.length then W.hs.getD i [] else []) = l) (h : OwnW At P w p W) :
    Calls Tryz.prog 13 #[bptr p, .int .i64 (i : Int)] w fun e w' => ∃ s cap, e = .returned (.slice s l.length cap) ∧ EvIn w' s cap l ∧ Below w.heap.size w w' := by
  obtain ⟨F, hA, hF⟩ := h
  have := S.heard w p F W (i : Int) hA hi
  rw [show (if (0 : Int) ≤ (i : Int) ∧ (i : Int) < (W.ms.length : Int) then W.hs.getD (i : Int).toNat [] else []) = l by
    rw [← hl]
    by_cases k : i < W.ms.length
    · rw [if_pos k, if_pos ⟨by omega, by omega⟩]; rfl
    · rw [if_neg k, if_neg (by omega)]] at this
  exact this
theorem ow_heardNo (S : WireSpec At) {P : Nat → Prop} {w : World} {p : Nat} {W : Mm.Wi} (i : Int) (hw : (Lit.int .i64 i).wf = true) (hi : ¬ (0 ≤ i ∧ i < W.ms.length)) (h : OwnW At P w p W) : Ob.Looks Tryz.prog 13 #[bptr p, .int .i64 i] w (.slice none 0 0) := by
  obtain ⟨F, hA, hF⟩ := h
  exact S.heardNo w p F W i hA hw hi
theorem ow_len (S : WireSpec At) {P : Nat → Prop} {w : World} {p : Nat} {W : Mm.Wi} {n : Nat} (hn : W.ms.length = n) (h : OwnW At P w p W) : Ob.Looks Tryz.prog 7 #[bptr p] w (.int .i64 (n : Int)) := by
  obtain ⟨F, hA, hF⟩ := h
  subst hn
  exact S.cnt w p F W hA
theorem ow_mac (S : WireSpec At) {P : Nat → Prop} {w : World} {p : Nat} {W : Mm.Wi} (i : Nat) (hi : i < W.ms.length) (h : OwnW At P w p W) : Ob.Looks Tryz.prog 14 #[bptr p, .int .i64 (i : Int)] w (bptr (W.qs.getD i 0)) := by
  obtain ⟨F, hA, hF⟩ := h
  exact S.macOf w p F W i hA hi
theorem ow_macNil (S : WireSpec At) {P : Nat → Prop} {w : World} {p : Nat} {W : Mm.Wi} (i : Int) (hw : (Lit.int .i64 i).wf = true) (hi : ¬ (0 ≤ i ∧ i < W.ms.length)) (h : OwnW At P w p W) : Ob.Looks Tryz.prog 14 #[bptr p, .int .i64 i] w (.pointer none) := by
  obtain ⟨F, hA, hF⟩ := h
  exact S.macNil w p F W i hA hw hi
theorem ow_counts (S : WireSpec At) {P : Nat → Prop} {w : World} {p : Nat} {W : Mm.Wi} (i : Nat) {m : Mm.St} (hi : W.ms[i]? = some m) (h : OwnW At P w p W) (hT : Tab w) : Ob.Looks Tryz.prog 15 #[bptr (W.qs.getD i 0)] w (.agg #[.int .i64 m.cs, .int .i64 m.cg]) := by
  obtain ⟨F, hA, hF⟩ := h
  exact S.counts w p F W i m hA hT hi
theorem ow_bus (S : WireSpec At) {P : Nat → Prop} {w : World} {p : Nat} {W : Mm.Wi} (h : OwnW At P w p W) : Ob.Looks Tryz.prog 16 #[bptr p] w (bptr W.qb) := by
  obtain ⟨F, hA, hF⟩ := h
  exact S.busOf w p F W hA
theorem ow_trace (S : WireSpec At) {P : Nat → Prop} {w : World} {p : Nat} {W : Mm.Wi} (hl : W.bs.length ≤ 100000) (h : OwnW At P w p W) : Ob.Looks Tryz.prog 17 #[bptr W.qb] w (.string ⟨(Bm.row (W.bs.drop (W.bs.length - 4000))).toArray⟩) := by
  obtain ⟨F, hA, hF⟩ := h
  exact S.trace w p F W hA hl
end Go.Proofs.YthkaekpoicodeaaGreatDoor
