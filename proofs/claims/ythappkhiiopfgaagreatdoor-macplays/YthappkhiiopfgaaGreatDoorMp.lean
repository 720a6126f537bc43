/- Two nodes side by side: one that fits, and the document's. -/
import Derived.Test.YthappkhiiopfgaaGreatDoorUa
import Derived.Test.YthappkhiiopfgaaGreatDoorMk
namespace Go.Proofs.YthappkhiiopfgaaGreatDoor
open Go.RowKit
set_option linter.unusedVariables false
variable {At : World → Nat → (Nat → Prop) → Mm.St → Prop}
/-- One node, all of it from block B on. -/
def One (At : World → Nat → (Nat → Prop) → Mm.St → Prop) (B : Nat) (w : World) (p : Nat) (m : Mm.St) : Prop := ∃ F, At w p F m ∧ ∀ g, F g → B ≤ g
/-- Two nodes apart, and a list of events apart from both. -/
def PrE (At : World → Nat → (Nat → Prop) → Mm.St → Prop) (B : Nat) (w : World) (p : Nat) (m : Mm.St) (q : Nat) (k : Mm.St) (s : Option Addr) : Prop :=
  ∃ F G, At w p F m ∧ RAt w q G k ∧ (∀ g, F g → ¬ G g) ∧ (∀ g, F g → B ≤ g) ∧ (∀ g, G g → B ≤ g) ∧ ∀ g o, s = some ⟨g, o, none⟩ → ¬ F g ∧ ¬ G g
abbrev Pr (At : World → Nat → (Nat → Prop) → Mm.St → Prop) (B : Nat) (w : World) (p : Nat) (m : Mm.St) (q : Nat) (k : Mm.St) : Prop := PrE At B w p m q k none
theorem PrE.plain {B : Nat} {w : World} {p q : Nat} {m k : Mm.St} {s : Option Addr} (h : PrE At B w p m q k s) : Pr At B w p m q k := by
  obtain ⟨F, G, h1, h2, h3, h4, h5, h6⟩ := h
  exact ⟨F, G, h1, h2, h3, h4, h5, fun g o e => by cases e⟩
theorem PrE.on (S : MacSpec At) {B : Nat} {w w' : World} {p q : Nat} {m k : Mm.St} {s : Option Addr} (h : PrE At B w p m q k s) (hb : Below w.heap.size w w') : PrE At B w' p m q k s := by
  obtain ⟨F, G, h1, h2, h3, h4, h5, h6⟩ := h
  exact ⟨F, G, S.on h1 (fun g hg => hb.block g (S.lt h1 g hg)), h2.on (fun g hg => hb.block g (h2.lt g hg)), h3, h4, h5, h6⟩
theorem PrE.ok {B : Nat} {w : World} {p q : Nat} {m k : Mm.St} {s : Option Addr} (h : PrE At B w p m q k s) : Mm.Ok k := by
  obtain ⟨F, G, h1, h2, h3, h4, h5, h6⟩ := h
  exact h2.ok
theorem PrE.state {B : Nat} {w : World} {p q : Nat} {m k : Mm.St} {s : Option Addr} (h : PrE At B w p m q k s) : w.cell? ⟨q, 0, none⟩ = some (.int .i64 (phI k.ph)) := by
  obtain ⟨F, G, h1, h2, h3, h4, h5, h6⟩ := h
  exact h2.state
theorem PrE.sent {B : Nat} {w : World} {p q : Nat} {m k : Mm.St} {s : Option Addr} (h : PrE At B w p m q k s) : w.cell? ⟨q, 14, none⟩ = some (.int .i64 k.cs) := by
  obtain ⟨F, G, h1, h2, h3, h4, h5, h6⟩ := h
  exact h2.sent
theorem PrE.got {B : Nat} {w : World} {p q : Nat} {m k : Mm.St} {s : Option Addr} (h : PrE At B w p m q k s) : w.cell? ⟨q, 15, none⟩ = some (.int .i64 k.cg) := by
  obtain ⟨F, G, h1, h2, h3, h4, h5, h6⟩ := h
  exact h2.got
theorem pr_new1 (S : MacSpec At) {B : Nat} {w : World} (hB : B ≤ w.heap.size) (hT : Tab w) : Calls Tryz.prog 5 #[] w fun e w' => ∃ p, e = .returned (bptr p) ∧ One At B w' p Mm.fresh ∧ Below w.heap.size w w' :=
  (S.new w hT).mono fun e w' ⟨p, F, he, hA, hF, hb⟩ => ⟨p, he, ⟨F, hA, fun g hg => Nat.le_trans hB (hF g hg)⟩, hb⟩
theorem pr_new2 (S : MacSpec At) {B : Nat} {w : World} {p : Nat} {m : Mm.St} (h : One At B w p m) (hB : B ≤ w.heap.size) : Calls Tryz.prog 6 #[] w fun e w' => ∃ q, e = .returned (bptr q) ∧ Pr At B w' p m q Mm.fresh ∧ Below w.heap.size w w' := by
  obtain ⟨F, hA, hF⟩ := h
  refine (rat_new w).mono ?_
  rintro e w' ⟨q, G, rfl, hR, hG, hb⟩
  exact ⟨q, rfl, ⟨F, G, S.on hA (fun g hg => hb.block g (S.lt hA g hg)), hR, fun g hf hg => by have := S.lt hA g hf; have := hG g hg; omega, hF, fun g hg => Nat.le_trans hB (hG g hg), fun g o e => by cases e⟩, hb⟩
/-- The first node's step. -/
theorem PrE.step1 (S : MacSpec At) {B : Nat} {w w' : World} {p q : Nat} {k m' : Mm.St} {F G F' : Nat → Prop} (h2 : RAt w q G k) (h3 : ∀ g, F g → ¬ G g) (h4 : ∀ g, F g → B ≤ g) (h5 : ∀ g, G g → B ≤ g) (hB : B ≤ w.heap.size)
    (hA : At w' p F' m') (hs : ∀ g, F' g → F g ∨ w.heap.size ≤ g) (hk : Kept F w w') (s : Option Addr) (he : ∀ g o, s = some ⟨g, o, none⟩ → ¬ F' g ∧ w.heap.size ≤ g) : PrE At B w' p m' q k s ∧ Below B w w' := by
  refine ⟨⟨F', G, hA, h2.on (fun g hg => hk.block g (h2.lt g hg) (fun hf => h3 g hf hg)), fun g hf hg => ?_, fun g hg => (hs g hg).elim (h4 g) (Nat.le_trans hB), h5, fun g o e => ⟨(he g o e).1, fun hg => ?_⟩⟩, hk.below h4 hB⟩
  · exact (hs g hf).elim (fun k => h3 g k hg) (fun k => by have := h2.lt g hg; omega)
  · have := h2.lt g hg; have := (he g o e).2; omega
/-- The document's node's step. -/
theorem PrE.step2 (S : MacSpec At) {B : Nat} {w w' : World} {p q : Nat} {m k' : Mm.St} {F G G' : Nat → Prop} (h1 : At w p F m) (h3 : ∀ g, F g → ¬ G g) (h4 : ∀ g, F g → B ≤ g) (h5 : ∀ g, G g → B ≤ g) (hB : B ≤ w.heap.size)
    (hA : RAt w' q G' k') (hs : ∀ g, G' g → G g ∨ w.heap.size ≤ g) (hk : Kept G w w') : Pr At B w' p m q k' ∧ Below B w w' := by
  refine ⟨⟨F, G', S.on h1 (fun g hg => hk.block g (S.lt h1 g hg) (fun hf => h3 g hg hf)), hA, fun g hf hg => ?_, h4, fun g hg => (hs g hg).elim (h5 g) (Nat.le_trans hB), fun g o e => by cases e⟩, hk.below h5 hB⟩
  exact (hs g hg).elim (fun k => h3 g hf k) (fun k => by have := S.lt h1 g hf; omega)
theorem pr_ask1 (S : MacSpec At) {B : Nat} {w : World} {p q : Nat} {m k : Mm.St} (f : Cm.Fr) (h1 : f.2.1 < 4294967296) (h2 : f.2.2.2.length ≤ 1000) (h : Pr At B w p m q k) (hB : B ≤ w.heap.size) (hT : Tab w) :
    Calls Tryz.prog 7 #[bptr p, frV f] w fun e w' => e = .returned (.int .i64 ((Mm.ask m f).1 : Int)) ∧ Pr At B w' p (Mm.ask m f).2 q k ∧ Below B w w' := by
  obtain ⟨F, G, a1, a2, a3, a4, a5, a6⟩ := h
  exact (S.ask w p F m f a1 hT h1 h2).mono fun e w' ⟨he, F', hA, hs, hk⟩ => ⟨he, PrE.step1 S a2 a3 a4 a5 hB hA hs hk none (fun g o e => by cases e)⟩
theorem pr_ask2 (S : MacSpec At) {B : Nat} {w : World} {p q : Nat} {m k : Mm.St} (f : Cm.Fr) (h : Pr At B w p m q k) (hB : B ≤ w.heap.size) :
    Calls Tryz.prog 8 #[bptr q, frV f] w fun e w' => e = .returned (.int .i64 ((Mm.ask k f).1 : Int)) ∧ Pr At B w' p m q (Mm.ask k f).2 ∧ Below B w w' := by
  obtain ⟨F, G, a1, a2, a3, a4, a5, a6⟩ := h
  exact (rat_ask w q G k f a2).mono fun e w' ⟨he, G', hA, hs, hk⟩ => ⟨he, PrE.step2 S a1 a3 a4 a5 hB hA hs hk⟩
theorem pr_cancel1 (S : MacSpec At) {B : Nat} {w : World} {p q : Nat} {m k : Mm.St} (h : Pr At B w p m q k) (hB : B ≤ w.heap.size) (hT : Tab w) :
    Calls Tryz.prog 9 #[bptr p] w fun e w' => e = .returned (.bool (Mm.cancel m).1) ∧ Pr At B w' p (Mm.cancel m).2 q k ∧ Below B w w' := by
  obtain ⟨F, G, a1, a2, a3, a4, a5, a6⟩ := h
  exact (S.cancel w p F m a1 hT).mono fun e w' ⟨he, F', hA, hs, hk⟩ => ⟨he, PrE.step1 S a2 a3 a4 a5 hB hA hs hk none (fun g o e => by cases e)⟩
theorem pr_cancel2 (S : MacSpec At) {B : Nat} {w : World} {p q : Nat} {m k : Mm.St} (h : Pr At B w p m q k) (hB : B ≤ w.heap.size) :
    Calls Tryz.prog 10 #[bptr q] w fun e w' => e = .returned (.bool (Mm.cancel k).1) ∧ Pr At B w' p m q (Mm.cancel k).2 ∧ Below B w w' := by
  obtain ⟨F, G, a1, a2, a3, a4, a5, a6⟩ := h
  exact (rat_cancel w q G k a2).mono fun e w' ⟨he, G', hA, hs, hk⟩ => ⟨he, PrE.step2 S a1 a3 a4 a5 hB hA hs hk⟩
theorem pr_drive1 (S : MacSpec At) {B : Nat} {w : World} {p q : Nat} {m k : Mm.St} {s : Option Addr} {v : Int} (hv : (if Mm.drive m then 49 else 48) = v) (h : PrE At B w p m q k s) (hB : B ≤ w.heap.size) (hT : Tab w) :
    Calls Tryz.prog 12 #[bptr p] w fun e w' => e = .returned (.int .u8 v) ∧ PrE At B w' p m q k s ∧ Below B w w' := by
  subst hv
  have h' := h
  obtain ⟨F, G, a1, a2, a3, a4, a5, a6⟩ := h
  exact (S.drive w p F m a1 hT).mono fun e w' ⟨he, hb⟩ => ⟨he, h'.on S hb, hb.mono hB⟩
theorem pr_drive2 (S : MacSpec At) {B : Nat} {w : World} {p q : Nat} {m k : Mm.St} {s : Option Addr} {v : Int} (hv : (if Mm.drive k then 49 else 48) = v) (h : PrE At B w p m q k s) (hB : B ≤ w.heap.size) :
    Calls Tryz.prog 11 #[bptr q] w fun e w' => e = .returned (.int .u8 v) ∧ PrE At B w' p m q k s ∧ Below B w w' := by
  subst hv
  have h' := h
  obtain ⟨F, G, a1, a2, a3, a4, a5, a6⟩ := h
  exact (rat_drive w q G k a2).mono fun e w' ⟨he, hb⟩ => ⟨he, h'.on S hb, hb.mono hB⟩
theorem pr_busy1 (S : MacSpec At) {B : Nat} {w : World} {p q : Nat} {m k : Mm.St} {s : Option Addr} (h : PrE At B w p m q k s) (hB : B ≤ w.heap.size) (hT : Tab w) :
    Calls Tryz.prog 17 #[bptr p] w fun e w' => e = .returned (.bool (Mm.busy m)) ∧ PrE At B w' p m q k s ∧ Below B w w' := by
  have h' := h
  obtain ⟨F, G, a1, a2, a3, a4, a5, a6⟩ := h
  exact (S.busy w p F m a1 hT).mono fun e w' ⟨he, hb⟩ => ⟨he, h'.on S hb, hb.mono hB⟩
theorem pr_busy2 (S : MacSpec At) {B : Nat} {w : World} {p q : Nat} {m k : Mm.St} {s : Option Addr} (h : PrE At B w p m q k s) (hB : B ≤ w.heap.size) :
    Calls Tryz.prog 18 #[bptr q] w fun e w' => e = .returned (.bool (Mm.busy k)) ∧ PrE At B w' p m q k s ∧ Below B w w' := by
  have h' := h
  obtain ⟨F, G, a1, a2, a3, a4, a5, a6⟩ := h
  exact (rat_busy w q G k a2).mono fun e w' ⟨he, hb⟩ => ⟨he, h'.on S hb, hb.mono hB⟩
theorem pr_idle1 (S : MacSpec At) {B : Nat} {w : World} {p q : Nat} {m k : Mm.St} {s : Option Addr} (h : PrE At B w p m q k s) (hB : B ≤ w.heap.size) (hT : Tab w) :
    Calls Tryz.prog 19 #[bptr p] w fun e w' => e = .returned (.bool (decide (m.ph = .idle))) ∧ PrE At B w' p m q k s ∧ Below B w w' := by
  have h' := h
  obtain ⟨F, G, a1, a2, a3, a4, a5, a6⟩ := h
  exact (S.idle w p F m a1 hT).mono fun e w' ⟨he, hb⟩ => ⟨he, h'.on S hb, hb.mono hB⟩
theorem pr_counts1 (S : MacSpec At) {B : Nat} {w : World} {p q : Nat} {m k : Mm.St} {s : Option Addr} (h : PrE At B w p m q k s) (hB : B ≤ w.heap.size) (hT : Tab w) :
    Calls Tryz.prog 16 #[bptr p] w fun e w' => e = .returned (.agg #[.int .i64 m.cs, .int .i64 m.cg]) ∧ PrE At B w' p m q k s ∧ Below B w w' := by
  have h' := h
  obtain ⟨F, G, a1, a2, a3, a4, a5, a6⟩ := h
  exact (S.counts w p F m a1 hT).mono fun e w' ⟨he, hb⟩ => ⟨he, h'.on S hb, hb.mono hB⟩
theorem pr_sample1 (S : MacSpec At) {B : Nat} {w : World} {p q : Nat} {m k : Mm.St} (c : UInt8) (h : Pr At B w p m q k) (hB : B ≤ w.heap.size) (hT : Tab w) :
    Calls Tryz.prog 14 #[bptr p, .int .u8 (c.toNat : Int)] w fun e w' => ∃ s cap, e = .returned (.slice s (Mm.sample m (c != 48)).2.length cap) ∧ EvAt B w' s cap (Mm.sample m (c != 48)).2 ∧ PrE At B w' p (Mm.sample m (c != 48)).1 q k s ∧ Below B w w' := by
  obtain ⟨F, G, a1, a2, a3, a4, a5, a6⟩ := h
  refine (S.sample w p F m c a1 hT).mono ?_
  rintro e w' ⟨s, cap, rfl, hE, F', hA, hs, hn, hk⟩
  have hx := PrE.step1 S a2 a3 a4 a5 hB hA hs hk s (fun g o e => ⟨hn g o e, (hE.zero g o e).2.1⟩)
  exact ⟨s, cap, rfl, hE.base hB, hx⟩
theorem pr_sample2 (S : MacSpec At) {B : Nat} {w : World} {p q : Nat} {m k : Mm.St} (c : UInt8) {s1 : Option Addr} {cap1 : Nat} {l1 : List Mm.Ev} (h : PrE At B w p m q k s1) (hE1 : EvAt B w s1 cap1 l1) (hB : B ≤ w.heap.size) :
    Calls Tryz.prog 15 #[bptr q, .int .u8 (c.toNat : Int)] w fun e w' => ∃ s cap, e = .returned (.slice s (Mm.sample k (c != 48)).2.length cap) ∧ EvAt B w' s cap (Mm.sample k (c != 48)).2 ∧ EvAt B w' s1 cap1 l1 ∧ Pr At B w' p m q (Mm.sample k (c != 48)).1 ∧ Below B w w' := by
  obtain ⟨F, G, a1, a2, a3, a4, a5, a6⟩ := h
  refine (rat_sample w q G k c a2).mono ?_
  rintro e w' ⟨s, cap, rfl, hE, G', hA, hs, hn, hk⟩
  have hx := PrE.step2 S a1 a3 a4 a5 hB hA hs hk
  exact ⟨s, cap, rfl, hE.base hB, hE1.on (fun g o e => hk.block g (hE1.zero g o e).2.2 (a6 g o e).2), hx⟩
/-- A third node, apart from both. -/
def Tri (At : World → Nat → (Nat → Prop) → Mm.St → Prop) (B : Nat) (w : World) (p : Nat) (m : Mm.St) (q : Nat) (k : Mm.St) (n : Nat) (j : Mm.St) : Prop :=
  ∃ F G N, At w p F m ∧ RAt w q G k ∧ At w n N j ∧ (∀ g, F g → ¬ G g) ∧ (∀ g, N g → ¬ F g) ∧ (∀ g, N g → ¬ G g) ∧ (∀ g, F g → B ≤ g) ∧ (∀ g, G g → B ≤ g) ∧ ∀ g, N g → B ≤ g
theorem Tri.pair {B : Nat} {w : World} {p q n : Nat} {m k j : Mm.St} (h : Tri At B w p m q k n j) : Pr At B w p m q k := by
  obtain ⟨F, G, N, a1, a2, a3, a4, a5, a6, a7, a8, a9⟩ := h
  exact ⟨F, G, a1, a2, a4, a7, a8, fun g o e => by cases e⟩
theorem Tri.step (S : MacSpec At) {B : Nat} {w w' : World} {p q n : Nat} {m k j' : Mm.St} {F G N N' : Nat → Prop} (a1 : At w p F m) (a2 : RAt w q G k) (a4 : ∀ g, F g → ¬ G g) (a5 : ∀ g, N g → ¬ F g) (a6 : ∀ g, N g → ¬ G g) (a7 : ∀ g, F g → B ≤ g) (a8 : ∀ g, G g → B ≤ g) (a9 : ∀ g, N g → B ≤ g) (hB : B ≤ w.heap.size)
    (hA : At w' n N' j') (hs : ∀ g, N' g → N g ∨ w.heap.size ≤ g) (hk : Kept N w w') : Tri At B w' p m q k n j' ∧ Below B w w' := by
  refine ⟨⟨F, G, N', S.on a1 (fun g hg => hk.block g (S.lt a1 g hg) (fun hn => a5 g hn hg)), a2.on (fun g hg => hk.block g (a2.lt g hg) (fun hn => a6 g hn hg)), hA, a4, fun g hn hf => ?_, fun g hn hg => ?_, a7, a8, fun g hg => (hs g hg).elim (a9 g) (Nat.le_trans hB)⟩, hk.below a9 hB⟩
  · exact (hs g hn).elim (fun k => a5 g k hf) (fun k => by have := S.lt a1 g hf; omega)
  · exact (hs g hn).elim (fun k => a6 g k hg) (fun k => by have := a2.lt g hg; omega)
theorem tri_copy (S : MacSpec At) {B : Nat} {w : World} {p q : Nat} {m k : Mm.St} (h : Pr At B w p m q k) (hB : B ≤ w.heap.size) (hT : Tab w) :
    Calls Tryz.prog 20 #[bptr p] w fun e w' => ∃ n, e = .returned (bptr n) ∧ Tri At B w' p m q k n m ∧ Below B w w' := by
  obtain ⟨F, G, a1, a2, a3, a4, a5, a6⟩ := h
  refine (S.copy w p F m a1 hT).mono ?_
  rintro e w' ⟨n, N, rfl, hA, hN, hb⟩
  exact ⟨n, rfl, ⟨F, G, N, S.on a1 (fun g hg => hb.block g (S.lt a1 g hg)), a2.on (fun g hg => hb.block g (a2.lt g hg)), hA, a3, fun g hn hf => by have := S.lt a1 g hf; have := hN g hn; omega, fun g hn hg => by have := a2.lt g hg; have := hN g hn; omega, a4, a5, fun g hg => Nat.le_trans hB (hN g hg)⟩, hb.mono hB⟩
theorem tri_ask (S : MacSpec At) {B : Nat} {w : World} {p q n : Nat} {m k j : Mm.St} (f : Cm.Fr) (h1 : f.2.1 < 4294967296) (h2 : f.2.2.2.length ≤ 1000) (h : Tri At B w p m q k n j) (hB : B ≤ w.heap.size) (hT : Tab w) :
    Calls Tryz.prog 7 #[bptr n, frV f] w fun e w' => e = .returned (.int .i64 ((Mm.ask j f).1 : Int)) ∧ Tri At B w' p m q k n (Mm.ask j f).2 ∧ Below B w w' := by
  obtain ⟨F, G, N, a1, a2, a3, a4, a5, a6, a7, a8, a9⟩ := h
  exact (S.ask w n N j f a3 hT h1 h2).mono fun e w' ⟨he, N', hA, hs, hk⟩ => ⟨he, Tri.step S a1 a2 a4 a5 a6 a7 a8 a9 hB hA hs hk⟩
theorem tri_sample (S : MacSpec At) {B : Nat} {w : World} {p q n : Nat} {m k j : Mm.St} (c : UInt8) (h : Tri At B w p m q k n j) (hB : B ≤ w.heap.size) (hT : Tab w) :
    Calls Tryz.prog 14 #[bptr n, .int .u8 (c.toNat : Int)] w fun e w' => ∃ s cap, e = .returned (.slice s (Mm.sample j (c != 48)).2.length cap) ∧ Tri At B w' p m q k n (Mm.sample j (c != 48)).1 ∧ Below B w w' := by
  obtain ⟨F, G, N, a1, a2, a3, a4, a5, a6, a7, a8, a9⟩ := h
  exact (S.sample w n N j c a3 hT).mono fun e w' ⟨s, cap, he, hE, N', hA, hs, hn, hk⟩ => ⟨s, cap, he, Tri.step S a1 a2 a4 a5 a6 a7 a8 a9 hB hA hs hk⟩
end Go.Proofs.YthappkhiiopfgaaGreatDoor
