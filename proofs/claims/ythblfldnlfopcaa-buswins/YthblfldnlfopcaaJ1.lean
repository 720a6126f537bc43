/- A wire on which 0 wins: what its methods are said to do, whatever holds its bits; of one wire and of two that are apart. -/
import Derived.Test.YthblfldnlfopcaaJ0
import Derived.Test.YthblfldnlfopcaaMa
namespace Go.Proofs.Ythblfldnlfopcaa
set_option linter.unusedVariables false
open Go.RowKit
def Bz.wire (l : List UInt8) : Bool := l.all (fun c => c != 48)
def Bz.last (bs : List Bool) : List Bool := bs.drop (bs.length - 4000)
def Bz.sg (b : Bool) : Int := if b then 49 else 48
theorem Bz.last_id {bs : List Bool} (h : bs.length ≤ 4000) : Bz.last bs = bs := by unfold Bz.last; rw [Nat.sub_eq_zero_of_le h]; rfl
abbrev bptr (p : Nat) : Value := .pointer (some ⟨p, 0, none⟩)
structure BusSpec (At : World → Nat → (Nat → Prop) → List Bool → Bool → Prop) : Prop where
  on : ∀ {w w' : World} {p : Nat} {F : Nat → Prop} {bs : List Bool} {fl : Bool}, At w p F bs fl → (∀ g, F g → w'.heap[g]? = w.heap[g]?) → At w' p F bs fl
  lt : ∀ {w : World} {p : Nat} {F : Nat → Prop} {bs : List Bool} {fl : Bool}, At w p F bs fl → ∀ g, F g → g < w.heap.size
  new : ∀ w, Calls Try.prog 8 #[] w fun e w' => ∃ p F, e = .returned (bptr p) ∧ At w' p F [] false ∧ (∀ g, F g → w.heap.size ≤ g) ∧ Below w.heap.size w w'
  step : ∀ (w : World) (p : Nat) (F : Nat → Prop) (bs : List Bool) (fl : Bool) (s : ByteArray), At w p F bs fl → bs.length ≤ 1000000 → s.size ≤ 1048576 →
    Calls Try.prog 11 #[bptr p, .string s] w fun e w' => e = .returned (.int .u8 (Bz.sg (Bz.wire s.data.toList != fl))) ∧ ∃ F', At w' p F' (bs ++ [Bz.wire s.data.toList != fl]) false ∧ (∀ g, F' g → F g ∨ w.heap.size ≤ g) ∧ Kept F w w'
  flip : ∀ (w : World) (p : Nat) (F : Nat → Prop) (bs : List Bool) (fl : Bool), At w p F bs fl →
    Calls Try.prog 9 #[bptr p] w fun e w' => e = .returned (.tuple #[]) ∧ ∃ F', At w' p F' bs true ∧ (∀ g, F' g → F g ∨ w.heap.size ≤ g) ∧ Kept F w w'
  trace : ∀ (w : World) (p : Nat) (F : Nat → Prop) (bs : List Bool) (fl : Bool), At w p F bs fl → bs.length ≤ 1000000 →
    Calls Try.prog 13 #[bptr p] w fun e w' => e = .returned (.string ⟨(Bm.row (Bz.last bs)).toArray⟩) ∧ Below w.heap.size w w'
  len : ∀ (w : World) (p : Nat) (F : Nat → Prop) (bs : List Bool) (fl : Bool), At w p F bs fl → bs.length ≤ 1000000 →
    Calls Try.prog 12 #[bptr p] w fun e w' => e = .returned (.int .i64 (bs.length : Int)) ∧ Below w.heap.size w w'
  copy : ∀ (w : World) (p : Nat) (F : Nat → Prop) (bs : List Bool) (fl : Bool), At w p F bs fl → bs.length ≤ 1000000 →
    Calls Try.prog 10 #[bptr p] w fun e w' => ∃ q G, e = .returned (bptr q) ∧ At w' q G bs fl ∧ (∀ g, G g → w.heap.size ≤ g) ∧ Below w.heap.size w w'
variable {At : World → Nat → (Nat → Prop) → List Bool → Bool → Prop}
/-- One wire, all of it from block B on. -/
def Own (At : World → Nat → (Nat → Prop) → List Bool → Bool → Prop) (B : Nat) (w : World) (p : Nat) (bs : List Bool) (fl : Bool) : Prop := ∃ F, At w p F bs fl ∧ ∀ g, F g → B ≤ g
/-- Two wires that are apart. -/
def Two (At : World → Nat → (Nat → Prop) → List Bool → Bool → Prop) (B : Nat) (w : World) (p : Nat) (bs : List Bool) (fl : Bool) (q : Nat) (cs : List Bool) (gl : Bool) : Prop :=
  ∃ F G, At w p F bs fl ∧ At w q G cs gl ∧ (∀ g, F g → ¬ G g) ∧ (∀ g, F g → B ≤ g) ∧ (∀ g, G g → B ≤ g)
theorem Own.on (S : BusSpec At) {B : Nat} {w w' : World} {p : Nat} {bs : List Bool} {fl : Bool} (h : Own At B w p bs fl) (hb : Below w.heap.size w w') : Own At B w' p bs fl := by
  obtain ⟨F, hA, hF⟩ := h
  exact ⟨F, S.on hA (fun g hg => hb.block g (S.lt hA g hg)), hF⟩
theorem Two.on (S : BusSpec At) {B : Nat} {w w' : World} {p q : Nat} {bs cs : List Bool} {fl gl : Bool} (h : Two At B w p bs fl q cs gl) (hb : Below w.heap.size w w') : Two At B w' p bs fl q cs gl := by
  obtain ⟨F, G, hA, hC, hd, hF, hG⟩ := h
  exact ⟨F, G, S.on hA (fun g hg => hb.block g (S.lt hA g hg)), S.on hC (fun g hg => hb.block g (S.lt hC g hg)), hd, hF, hG⟩
theorem Two.fst {B : Nat} {w : World} {p q : Nat} {bs cs : List Bool} {fl gl : Bool} (h : Two At B w p bs fl q cs gl) : Own At B w p bs fl := by
  obtain ⟨F, G, hA, hC, hd, hF, hG⟩ := h; exact ⟨F, hA, hF⟩
theorem Two.swap {B : Nat} {w : World} {p q : Nat} {bs cs : List Bool} {fl gl : Bool} (h : Two At B w p bs fl q cs gl) : Two At B w q cs gl p bs fl := by
  obtain ⟨F, G, hA, hC, hd, hF, hG⟩ := h; exact ⟨G, F, hC, hA, fun g hg hf => hd g hf hg, hG, hF⟩
theorem own_new (S : BusSpec At) (B : Nat) (w : World) (hB : B ≤ w.heap.size) : Calls Try.prog 8 #[] w fun e w' => ∃ p, e = .returned (bptr p) ∧ Own At B w' p [] false ∧ Below w.heap.size w w' :=
  (S.new w).mono fun e w' ⟨p, F, he, hA, hF, hb⟩ => ⟨p, he, ⟨F, hA, fun g hg => Nat.le_trans hB (hF g hg)⟩, hb⟩
theorem own_step (S : BusSpec At) {B : Nat} {w : World} {p : Nat} {bs : List Bool} {fl : Bool} (s : ByteArray) (h : Own At B w p bs fl) (hB : B ≤ w.heap.size) (h1 : bs.length ≤ 1000000) (h2 : s.size ≤ 1048576) :
    Calls Try.prog 11 #[bptr p, .string s] w fun e w' => e = .returned (.int .u8 (Bz.sg (Bz.wire s.data.toList != fl))) ∧ Own At B w' p (bs ++ [Bz.wire s.data.toList != fl]) false ∧ Below B w w' := by
  obtain ⟨F, hA, hF⟩ := h
  exact (S.step w p F bs fl s hA h1 h2).mono fun e w' ⟨he, F', hA', hs, hk⟩ => ⟨he, ⟨F', hA', fun g hg => (hs g hg).elim (hF g) (Nat.le_trans hB)⟩, hk.below hF hB⟩
theorem own_flip (S : BusSpec At) {B : Nat} {w : World} {p : Nat} {bs : List Bool} {fl : Bool} (h : Own At B w p bs fl) (hB : B ≤ w.heap.size) :
    Calls Try.prog 9 #[bptr p] w fun e w' => e = .returned (.tuple #[]) ∧ Own At B w' p bs true ∧ Below B w w' := by
  obtain ⟨F, hA, hF⟩ := h
  exact (S.flip w p F bs fl hA).mono fun e w' ⟨he, F', hA', hs, hk⟩ => ⟨he, ⟨F', hA', fun g hg => (hs g hg).elim (hF g) (Nat.le_trans hB)⟩, hk.below hF hB⟩
theorem own_trace (S : BusSpec At) {B : Nat} {w : World} {p : Nat} {bs : List Bool} {fl : Bool} (h : Own At B w p bs fl) (hB : B ≤ w.heap.size) (h1 : bs.length ≤ 1000000) :
    Calls Try.prog 13 #[bptr p] w fun e w' => e = .returned (.string ⟨(Bm.row (Bz.last bs)).toArray⟩) ∧ Own At B w' p bs fl ∧ Below B w w' := by
  obtain ⟨F, hA, hF⟩ := h
  exact (S.trace w p F bs fl hA h1).mono fun e w' ⟨he, hb⟩ => ⟨he, ⟨F, S.on hA (fun g hg => hb.block g (S.lt hA g hg)), hF⟩, hb.mono hB⟩
theorem own_len (S : BusSpec At) {B : Nat} {w : World} {p : Nat} {bs : List Bool} {fl : Bool} (h : Own At B w p bs fl) (hB : B ≤ w.heap.size) (h1 : bs.length ≤ 1000000) :
    Calls Try.prog 12 #[bptr p] w fun e w' => e = .returned (.int .i64 (bs.length : Int)) ∧ Own At B w' p bs fl ∧ Below B w w' := by
  obtain ⟨F, hA, hF⟩ := h
  exact (S.len w p F bs fl hA h1).mono fun e w' ⟨he, hb⟩ => ⟨he, ⟨F, S.on hA (fun g hg => hb.block g (S.lt hA g hg)), hF⟩, hb.mono hB⟩
theorem own_copy (S : BusSpec At) {B : Nat} {w : World} {p : Nat} {bs : List Bool} {fl : Bool} (h : Own At B w p bs fl) (hB : B ≤ w.heap.size) (h1 : bs.length ≤ 1000000) :
    Calls Try.prog 10 #[bptr p] w fun e w' => ∃ q, e = .returned (bptr q) ∧ Two At B w' p bs fl q bs fl ∧ Below B w w' := by
  obtain ⟨F, hA, hF⟩ := h
  exact (S.copy w p F bs fl hA h1).mono fun e w' ⟨q, G, he, hC, hG, hb⟩ => ⟨q, he, ⟨F, G, S.on hA (fun g hg => hb.block g (S.lt hA g hg)), hC, fun g hf hg => by have := S.lt hA g hf; have := hG g hg; omega, hF, fun g hg => Nat.le_trans hB (hG g hg)⟩, hb.mono hB⟩
theorem two_step (S : BusSpec At) {B : Nat} {w : World} {p q : Nat} {bs cs : List Bool} {fl gl : Bool} (s : ByteArray) (h : Two At B w p bs fl q cs gl) (hB : B ≤ w.heap.size) (h1 : bs.length ≤ 1000000) (h2 : s.size ≤ 1048576) :
    Calls Try.prog 11 #[bptr p, .string s] w fun e w' => e = .returned (.int .u8 (Bz.sg (Bz.wire s.data.toList != fl))) ∧ Two At B w' p (bs ++ [Bz.wire s.data.toList != fl]) false q cs gl ∧ Below B w w' := by
  obtain ⟨F, G, hA, hC, hd, hF, hG⟩ := h
  refine (S.step w p F bs fl s hA h1 h2).mono fun e w' ⟨he, F', hA', hs, hk⟩ => ⟨he, ⟨F', G, hA', S.on hC (fun g hg => hk.block g (S.lt hC g hg) (fun hf => hd g hf hg)), fun g hf hg => ?_, fun g hg => (hs g hg).elim (hF g) (Nat.le_trans hB), hG⟩, hk.below hF hB⟩
  exact (hs g hf).elim (fun k => hd g k hg) (fun k => by have := S.lt hC g hg; omega)
theorem two_trace (S : BusSpec At) {B : Nat} {w : World} {p q : Nat} {bs cs : List Bool} {fl gl : Bool} (h : Two At B w p bs fl q cs gl) (hB : B ≤ w.heap.size) (h1 : bs.length ≤ 1000000) :
    Calls Try.prog 13 #[bptr p] w fun e w' => e = .returned (.string ⟨(Bm.row (Bz.last bs)).toArray⟩) ∧ Two At B w' p bs fl q cs gl ∧ Below B w w' := by
  have h' := h
  obtain ⟨F, G, hA, hC, hd, hF, hG⟩ := h
  exact (S.trace w p F bs fl hA h1).mono fun e w' ⟨he, hb⟩ => ⟨he, h'.on S hb, hb.mono hB⟩
theorem two_len (S : BusSpec At) {B : Nat} {w : World} {p q : Nat} {bs cs : List Bool} {fl gl : Bool} (h : Two At B w p bs fl q cs gl) (hB : B ≤ w.heap.size) (h1 : bs.length ≤ 1000000) :
    Calls Try.prog 12 #[bptr p] w fun e w' => e = .returned (.int .i64 (bs.length : Int)) ∧ Two At B w' p bs fl q cs gl ∧ Below B w w' := by
  have h' := h
  obtain ⟨F, G, hA, hC, hd, hF, hG⟩ := h
  exact (S.len w p F bs fl hA h1).mono fun e w' ⟨he, hb⟩ => ⟨he, h'.on S hb, hb.mono hB⟩
theorem two_step2 (S : BusSpec At) {B : Nat} {w : World} {p q : Nat} {bs cs : List Bool} {fl gl : Bool} (s : ByteArray) (h : Two At B w p bs fl q cs gl) (hB : B ≤ w.heap.size) (h1 : cs.length ≤ 1000000) (h2 : s.size ≤ 1048576) :
    Calls Try.prog 11 #[bptr q, .string s] w fun e w' => e = .returned (.int .u8 (Bz.sg (Bz.wire s.data.toList != gl))) ∧ Two At B w' p bs fl q (cs ++ [Bz.wire s.data.toList != gl]) false ∧ Below B w w' :=
  (two_step S s h.swap hB h1 h2).mono fun e w' ⟨he, h, hb⟩ => ⟨he, h.swap, hb⟩
theorem two_trace2 (S : BusSpec At) {B : Nat} {w : World} {p q : Nat} {bs cs : List Bool} {fl gl : Bool} (h : Two At B w p bs fl q cs gl) (hB : B ≤ w.heap.size) (h1 : cs.length ≤ 1000000) :
    Calls Try.prog 13 #[bptr q] w fun e w' => e = .returned (.string ⟨(Bm.row (Bz.last cs)).toArray⟩) ∧ Two At B w' p bs fl q cs gl ∧ Below B w w' :=
  (two_trace S h.swap hB h1).mono fun e w' ⟨he, h, hb⟩ => ⟨he, h.swap, hb⟩
theorem two_len2 (S : BusSpec At) {B : Nat} {w : World} {p q : Nat} {bs cs : List Bool} {fl gl : Bool} (h : Two At B w p bs fl q cs gl) (hB : B ≤ w.heap.size) (h1 : cs.length ≤ 1000000) :
    Calls Try.prog 12 #[bptr q] w fun e w' => e = .returned (.int .i64 (cs.length : Int)) ∧ Two At B w' p bs fl q cs gl ∧ Below B w w' :=
  (two_len S h.swap hB h1).mono fun e w' ⟨he, h, hb⟩ => ⟨he, h.swap, hb⟩
end Go.Proofs.Ythblfldnlfopcaa
