/- A node on the wire: what its methods are said to do, whatever it is made of. -/
import Derived.Test.YthkaekpoicodeaaGreatDoorJ0
import Derived.Test.YthkaekpoicodeaaGreatDoorUe
import Derived.Test.YthkaekpoicodeaaGreatDoorTb
import Derived.Laws.AppendOwn
namespace Go.Proofs.YthkaekpoicodeaaGreatDoor
open Go.RowKit
set_option linter.unusedVariables false
abbrev frV (f : Cm.Fr) : Value := .agg #[.bool f.1, .int .u32 (f.2.1 : Int), .bool f.2.2.1, .string ⟨f.2.2.2.toArray⟩]
/-- An event's cells. -/
def evV (e : Mm.Ev) : List Value := [.int .i64 (e.k : Int), .bool e.f.1, .int .u32 (e.f.2.1 : Int), .bool e.f.2.2.1, .string ⟨e.f.2.2.2.toArray⟩, .int .i64 (e.e : Int)]
def evC (l : List Mm.Ev) : List Value := l.flatMap evV
theorem evC_length (l : List Mm.Ev) : (evC l).length = l.length * 6 := by
  unfold evC
  induction l with
  | nil => rfl
  | cons a l ih => rw [List.flatMap_cons, List.length_append, ih, List.length_cons]; show 6 + _ = _; omega
/-- A list of events that a call has made: a slice of its own. -/
def EvAt (B : Nat) (w : World) (s : Option Addr) (cap : Nat) (l : List Mm.Ev) : Prop := w.ownsRow B 60 6 (.slice s l.length cap) l.length (evC l)
theorem EvAt.on {B : Nat} {w w' : World} {s : Option Addr} {cap : Nat} {l : List Mm.Ev} (h : EvAt B w s cap l) (hb : ∀ g o, s = some ⟨g, o, none⟩ → w'.heap[g]? = w.heap[g]?) : EvAt B w' s cap l := by
  refine ⟨h.1, ?_⟩
  rcases h.2 with ⟨h1, h2⟩ | ⟨g, c, cur, hv, hg, hh, r⟩
  · exact Or.inl ⟨h1, h2⟩
  · have hs : s = some ⟨g, 0, none⟩ := by injection hv
    exact Or.inr ⟨g, c, cur, hv, hg, by rw [hb g 0 hs]; exact hh, r⟩
theorem EvAt.base {B B' : Nat} {w : World} {s : Option Addr} {cap : Nat} {l : List Mm.Ev} (h : EvAt B w s cap l) (hb : B' ≤ B) : EvAt B' w s cap l := by
  refine ⟨h.1, ?_⟩
  rcases h.2 with ⟨h1, h2⟩ | ⟨g, c, cur, hv, hg, r⟩
  · exact Or.inl ⟨h1, h2⟩
  · exact Or.inr ⟨g, c, cur, hv, Nat.le_trans hb hg, r⟩
/-- Where the events lie. -/
theorem EvAt.spot {B : Nat} {w : World} {s : Option Addr} {cap : Nat} {l : List Mm.Ev} (h : EvAt B w s cap l) (hl : l ≠ []) :
    ∃ g, s = some ⟨g, 0, none⟩ ∧ B ≤ g ∧ g < w.heap.size ∧ l.length ≤ cap ∧ cap ≤ maxLen ∧ ∀ k v, (evC l)[k]? = some v → w.cell? ⟨g, k, none⟩ = some v := by
  rcases h.2 with ⟨h1, h2⟩ | ⟨g, c, cur, hv, hg, hh, hc, hm, hz, ht⟩
  · exact absurd (List.length_eq_zero_iff.1 h2) hl
  · injection hv with hs _ hcap
    subst hcap
    refine ⟨g, hs, hg, (Array.getElem?_eq_some_iff.1 hh).1, hc, hm, fun k v hk => ?_⟩
    rw [cell_of_row _ _ _ _ _ _ hh]
    rw [← ht] at hk
    rw [List.getElem?_take] at hk
    split at hk
    · simpa using hk
    · cases hk
structure MacSpec (At : World → Nat → (Nat → Prop) → Mm.St → Prop) : Prop where
  on : ∀ {w w' : World} {p : Nat} {F : Nat → Prop} {m : Mm.St}, At w p F m → (∀ g, F g → w'.heap[g]? = w.heap[g]?) → At w' p F m
  lt : ∀ {w : World} {p : Nat} {F : Nat → Prop} {m : Mm.St}, At w p F m → ∀ g, F g → g < w.heap.size
  ok : ∀ {w : World} {p : Nat} {F : Nat → Prop} {m : Mm.St}, At w p F m → Mm.Ok m
  new : ∀ w, Tab w → Calls Tryz.prog 20 #[] w fun e w' => ∃ p F, e = .returned (bptr p) ∧ At w' p F Mm.fresh ∧ (∀ g, F g → w.heap.size ≤ g) ∧ Below w.heap.size w w'
  ask : ∀ (w : World) (p : Nat) (F : Nat → Prop) (m : Mm.St) (f : Cm.Fr), At w p F m → Tab w → f.2.1 < 4294967296 → f.2.2.2.length ≤ 1000 →
    Calls Tryz.prog 25 #[bptr p, frV f] w fun e w' => e = .returned (.int .i64 ((Mm.ask m f).1 : Int)) ∧ ∃ F', At w' p F' (Mm.ask m f).2 ∧ (∀ g, F' g → F g ∨ w.heap.size ≤ g) ∧ Kept F w w'
  drive : ∀ (w : World) (p : Nat) (F : Nat → Prop) (m : Mm.St), At w p F m → Tab w →
    Calls Tryz.prog 40 #[bptr p] w fun e w' => e = .returned (.int .u8 (if Mm.drive m then 49 else 48)) ∧ Below w.heap.size w w'
  sample : ∀ (w : World) (p : Nat) (F : Nat → Prop) (m : Mm.St) (c : UInt8), At w p F m → Tab w →
    Calls Tryz.prog 41 #[bptr p, .int .u8 (c.toNat : Int)] w fun e w' => ∃ s cap, e = .returned (.slice s (Mm.sample m (c != 48)).2.length cap) ∧ EvAt w.heap.size w' s cap (Mm.sample m (c != 48)).2 ∧
      ∃ F', At w' p F' (Mm.sample m (c != 48)).1 ∧ (∀ g, F' g → F g ∨ w.heap.size ≤ g) ∧ (∀ g o, s = some ⟨g, o, none⟩ → ¬ F' g) ∧ Kept F w w'
  busy : ∀ (w : World) (p : Nat) (F : Nat → Prop) (m : Mm.St), At w p F m → Tab w →
    Calls Tryz.prog 37 #[bptr p] w fun e w' => e = .returned (.bool (Mm.busy m)) ∧ Below w.heap.size w w'
  counts : ∀ (w : World) (p : Nat) (F : Nat → Prop) (m : Mm.St), At w p F m → Tab w →
    Calls Tryz.prog 15 #[bptr p] w fun e w' => e = .returned (.agg #[.int .i64 m.cs, .int .i64 m.cg]) ∧ Below w.heap.size w w'
  copy : ∀ (w : World) (p : Nat) (F : Nat → Prop) (m : Mm.St), At w p F m → Tab w →
    Calls Tryz.prog 33 #[bptr p] w fun e w' => ∃ q G, e = .returned (bptr q) ∧ At w' q G m ∧ (∀ g, G g → w.heap.size ≤ g) ∧ Below w.heap.size w w'
variable {At : World → Nat → (Nat → Prop) → Mm.St → Prop}
/-- Where the walk stands: what was there at first is as it was; what nodes may write (P) lies behind it, and all that is new may be theirs. -/
structure Ctx (W : World) (P : Nat → Prop) (w : World) : Prop where
  below : Below W.heap.size W w
  room : ∀ g, w.heap.size ≤ g → P g
  low : ∀ g, P g → W.heap.size ≤ g
  tabW : Tab W
theorem Ctx.tab {W : World} {P : Nat → Prop} {w : World} (h : Ctx W P w) : Tab w := h.tabW.below h.below
theorem Ctx.next {W : World} {P : Nat → Prop} {w w' : World} (h : Ctx W P w) (k : Kept P w w') : Ctx W P w' :=
  ⟨h.below.trans (k.below h.low h.below.size), fun g hg => h.room g (Nat.le_trans k.size hg), h.low, h.tabW⟩
theorem Ctx.more {W : World} {P : Nat → Prop} {w w' : World} (h : Ctx W P w) (k : Below w.heap.size w w') : Ctx W P w' := h.next (Kept.of_below k)
theorem Ctx.start {W : World} (h : Tab W) : Ctx W (fun g => W.heap.size ≤ g) W := ⟨Below.refl _ _, fun _ h => h, fun _ h => h, h⟩
theorem Ctx.from {W w : World} (h : Tab W) (hb : Below W.heap.size W w) : Ctx W (fun g => w.heap.size ≤ g) w := ⟨hb, fun _ h => h, fun _ h => Nat.le_trans hb.size h, h⟩
/-- A node, all of it where nodes may write. -/
def OwnM (At : World → Nat → (Nat → Prop) → Mm.St → Prop) (P : Nat → Prop) (w : World) (p : Nat) (m : Mm.St) : Prop := ∃ F, At w p F m ∧ ∀ g, F g → P g
theorem OwnM.on (S : MacSpec At) {P : Nat → Prop} {w w' : World} {p : Nat} {m : Mm.St} (h : OwnM At P w p m) (hb : Below w.heap.size w w') : OwnM At P w' p m := by
  obtain ⟨F, hA, hF⟩ := h
  exact ⟨F, S.on hA (fun g hg => hb.block g (S.lt hA g hg)), hF⟩
/-- What lies behind a node is none of its own. -/
theorem OwnM.avoid (S : MacSpec At) {P : Nat → Prop} {w : World} {p : Nat} {m : Mm.St} (h : OwnM At P w p m) (b : Nat) (hb : w.heap.size ≤ b) : OwnM At (fun g => P g ∧ g ≠ b) w p m := by
  obtain ⟨F, hA, hF⟩ := h
  exact ⟨F, hA, fun g hg => ⟨hF g hg, by have := S.lt hA g hg; omega⟩⟩
theorem Ctx.avoid {W : World} {P : Nat → Prop} {w : World} (h : Ctx W P w) (b : Nat) (hb : b < w.heap.size) : Ctx W (fun g => P g ∧ g ≠ b) w := ⟨h.below, fun g hg => ⟨h.room g hg, by omega⟩, fun g hg => h.low g hg.1, h.tabW⟩
theorem OwnM.ok (S : MacSpec At) {P : Nat → Prop} {w : World} {p : Nat} {m : Mm.St} (h : OwnM At P w p m) : Mm.Ok m := by
  obtain ⟨F, hA, hF⟩ := h
  exact S.ok hA
/-- A node that pauses, so many bits left; idle; sending; listening. -/
def Mm.pz (k : Nat) (h : Bool) (f : Cm.Fr) (b : List Bool) (tk : Bool) (s g : Int) : Mm.St := ⟨.pause, k, false, false, h, tk, f, b, s, g⟩
def Mm.idS (h : Bool) (f : Cm.Fr) (b : List Bool) (tk : Bool) (s g : Int) : Mm.St := ⟨.idle, 0, false, false, h, tk, f, b, s, g⟩
def Mm.sdS (f : Cm.Fr) (i : Nat) (s g : Int) : Mm.St := ⟨.inFr, 0, false, true, false, false, f, (Mm.ackB f).take i, s, g⟩
theorem Mm.pz_one (k : Nat) (h : Bool) (f : Cm.Fr) (b : List Bool) (tk : Bool) (s g : Int) : Mm.sample (Mm.pz (k + 2) h f b tk s g) true = (Mm.pz (k + 1) h f b tk s g, []) := rfl
theorem Mm.pz_last (h : Bool) (f : Cm.Fr) (b : List Bool) (tk : Bool) (s g : Int) : Mm.sample (Mm.pz 1 h f b tk s g) true = (Mm.idS h f b tk s g, []) := rfl
theorem Mm.idS_one (h : Bool) (f : Cm.Fr) (b : List Bool) (tk : Bool) (s g : Int) : Mm.sample (Mm.idS h f b tk s g) true = (Mm.idS h f b tk s g, []) := rfl
theorem Mm.idS_start {f : Cm.Fr} (hf : Mm.isFr f = true) (b : List Bool) (tk : Bool) (s g : Int) : Mm.sample (Mm.idS true f b tk s g) false = (Mm.sdS f 1 s g, [⟨6, Cm.noF, 0⟩]) := by
  unfold Mm.sdS
  rw [Mm.ack_zero hf]
  rfl
theorem Mm.sdS_bit {f : Cm.Fr} (hf : Mm.isFr f = true) (i : Nat) (s g : Int) (hi : i + 1 < (Mm.outB f).length) : Mm.sample (Mm.sdS f i s g) ((Mm.ackB f).getD i true) = (Mm.sdS f (i + 1) s g, []) := by
  rw [Mm.snd_bit hf (m := Mm.sdS f i s g) rfl rfl rfl rfl (by omega), if_neg (by omega)]
  rfl
theorem Mm.sdS_last {f : Cm.Fr} (hf : Mm.isFr f = true) (i : Nat) (s g : Int) (hi : i + 1 = (Mm.outB f).length) : Mm.sample (Mm.sdS f i s g) ((Mm.ackB f).getD i true) = (Mm.pz 3 false f ((Mm.ackB f).take (i + 1)) false (Km.sentS s g true) g, [⟨1, f, 0⟩]) := by
  rw [Mm.snd_bit hf (m := Mm.sdS f i s g) rfl rfl rfl rfl (by omega), if_pos hi]
  rfl
theorem Mm.ack_first {f : Cm.Fr} (hf : Mm.isFr f = true) : (Mm.ackB f).getD 0 true = false := by
  have h := Mm.take_succ_getD (Mm.ackB f) 0 (by rw [Mm.ack_len]; have := (Mm.out_len hf).1; omega)
  rw [Mm.ack_zero hf, List.take_zero, List.nil_append] at h
  exact (List.singleton_inj.1 h).symm
/-- A node that sends f, alone on the wire but for those that acknowledge, ahead of bit i. -/
def Mm.tst (f : Cm.Fr) (b : List Bool) (tk : Bool) (s g : Int) (i : Nat) : Mm.St := if i = 0 then Mm.idS true f b tk s g else Mm.sdS f i s g
theorem Mm.tst_bit {f : Cm.Fr} (hf : Mm.isFr f = true) (b : List Bool) (tk : Bool) (s g : Int) (i : Nat) (hi : i + 1 < (Mm.outB f).length) : Mm.sample (Mm.tst f b tk s g i) ((Mm.ackB f).getD i true) = (Mm.tst f b tk s g (i + 1), if i = 0 then [⟨6, Cm.noF, 0⟩] else []) := by
  unfold Mm.tst
  rw [if_neg (Nat.succ_ne_zero i)]
  by_cases h0 : i = 0
  · subst h0
    rw [if_pos rfl, if_pos rfl, Mm.ack_first hf, Mm.idS_start hf]
  · rw [if_neg h0, if_neg h0, Mm.sdS_bit hf i s g hi]
theorem Mm.tst_last {f : Cm.Fr} (hf : Mm.isFr f = true) (b : List Bool) (tk : Bool) (s g : Int) (i : Nat) (hi : i + 1 = (Mm.outB f).length) : Mm.sample (Mm.tst f b tk s g i) ((Mm.ackB f).getD i true) = (Mm.pz 3 false f ((Mm.ackB f).take (i + 1)) false (Km.sentS s g true) g, [⟨1, f, 0⟩]) := by
  have := (Mm.out_len hf).1
  unfold Mm.tst
  rw [if_neg (by omega), Mm.sdS_last hf i s g hi]
theorem Mm.tst_drive {f : Cm.Fr} (b : List Bool) (tk : Bool) (s g : Int) (i : Nat) (hf : Mm.isFr f = true) (hi : i < (Mm.outB f).length) : Mm.drive (Mm.tst f b tk s g i) = (Mm.outB f).getD i true := by
  unfold Mm.tst
  by_cases h0 : i = 0
  · subst h0
    have h := Mm.ack_get f 0 hi
    have hl := (Mm.out_len hf).1
    rw [if_neg (by omega), Mm.ack_first hf] at h
    rw [if_pos rfl, ← h]
    rfl
  · rw [if_neg h0]
    exact Mm.snd_drive (m := Mm.sdS f i s g) rfl rfl rfl rfl hi
end Go.Proofs.YthkaekpoicodeaaGreatDoor
