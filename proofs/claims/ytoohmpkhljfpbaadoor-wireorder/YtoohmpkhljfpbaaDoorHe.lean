/- Frames asked for at once, over whatever wire fits: the wire, a row of four bools, a row of frames of the call's own, side by side. -/
import Derived.Test.YtoohmpkhljfpbaaDoorH4
import Derived.Test.YtoohmpkhljfpbaaDoorUi
namespace Go.Proofs.YtoohmpkhljfpbaaDoor
open Go.RowKit
set_option linter.unusedVariables false
variable {At : Ob.A Mm.Wi}
def frS (f : Cm.Fr) : List Value := [.bool f.1, .int .u32 (f.2.1 : Int), .bool f.2.2.1, .string ⟨f.2.2.2.toArray⟩]
def frC (l : List Cm.Fr) : List Value := l.flatMap frS
theorem frC_length (l : List Cm.Fr) : (frC l).length = l.length * 4 := by
  unfold frC
  induction l with
  | nil => rfl
  | cons a l ih => rw [List.flatMap_cons, List.length_append, ih, List.length_cons]; show 4 + _ = _; omega
theorem frC_one (l : List Cm.Fr) : ∀ u ∈ frC l, u.oneCell' = true := by
  intro u hu
  unfold frC at hu
  obtain ⟨v, _, hv⟩ := List.mem_flatMap.1 hu
  simp only [frS, List.mem_cons, List.not_mem_nil, or_false] at hv
  rcases hv with rfl | rfl | rfl | rfl <;> rfl
theorem frInfo : (Tryd.prog.info? 26).map (fun i => (i.zero, i.size, i.bytes)) = some (some (.agg #[.bool false, .int .u32 0, .bool false, .string ⟨#[]⟩]), 4, 32) := by kernel_rfl
/-- A row of frames of the call's own. -/
def FoAt (B : Nat) (w : World) (s : Option Addr) (cap : Nat) (l : List Cm.Fr) : Prop := w.ownsRow B 26 4 (.slice s l.length cap) l.length (frC l)
theorem FoAt.zero {B : Nat} {w : World} {s : Option Addr} {cap : Nat} {l : List Cm.Fr} (h : FoAt B w s cap l) : ∀ q, s = some q → q.off = 0 ∧ q.spot = none ∧ B ≤ q.block ∧ q.block < w.heap.size := by
  rintro q rfl
  rcases h.2 with ⟨h1, _⟩ | ⟨g', c, cur, hv, hB, hh, _⟩
  · injection h1 with a b c; cases a
  · injection hv with a b c
    injection a with a
    subst a
    exact ⟨rfl, rfl, hB, (Array.getElem?_eq_some_iff.1 hh).1⟩
theorem FoAt.on {B : Nat} {w w' : World} {s : Option Addr} {cap : Nat} {l : List Cm.Fr} (h : FoAt B w s cap l) (hb : ∀ q, s = some q → w'.heap[q.block]? = w.heap[q.block]?) : FoAt B w' s cap l := by
  refine ⟨h.1, ?_⟩
  rcases h.2 with ⟨h1, h2⟩ | ⟨g, c, cur, hv, hg, hh, r⟩
  · exact Or.inl ⟨h1, h2⟩
  · have hs : s = some ⟨g, 0, none⟩ := by injection hv
    exact Or.inr ⟨g, c, cur, hv, hg, by rw [hb _ hs]; exact hh, r⟩
theorem FoAt.at {B : Nat} {w : World} {s : Option Addr} {cap : Nat} {l : List Cm.Fr} (h : FoAt B w s cap l) (i : Nat) (f : Cm.Fr) (hf : l[i]? = some f) : ∃ g, s = some ⟨g, 0, none⟩ ∧ l.length ≤ cap ∧ cap ≤ maxLen ∧
    w.cell? ⟨g, i * 4, none⟩ = some (.bool f.1) ∧ w.cell? ⟨g, i * 4 + 1, none⟩ = some (.int .u32 (f.2.1 : Int)) ∧ w.cell? ⟨g, i * 4 + 2, none⟩ = some (.bool f.2.2.1) ∧ w.cell? ⟨g, i * 4 + 3, none⟩ = some (.string ⟨f.2.2.2.toArray⟩) := by
  have hl : i < l.length := (List.getElem?_eq_some_iff.1 hf).1
  rcases h.2 with ⟨h1, h2⟩ | ⟨g, c, cur, hv, hg, hh, hc, hm, hz, ht⟩
  · omega
  · injection hv with hs _ hcap
    subst hcap
    have key : ∀ (l : List Cm.Fr) (i : Nat), l[i]? = some f → ∀ j v, (frS f)[j]? = some v → (frC l)[i * 4 + j]? = some v := by
      intro l
      induction l with
      | nil => intro i hf; cases hf
      | cons a l ih =>
        intro i hf j v hj
        have hj4 : j < 4 := (List.getElem?_eq_some_iff.1 hj).1
        have e : frC (a :: l) = frS a ++ frC l := rfl
        rw [e]
        cases i with
        | zero =>
          have h' : a = f := by simpa using hf
          subst h'
          rw [List.getElem?_append_left (by show 0 * 4 + j < 4; omega), Nat.zero_mul, Nat.zero_add]
          exact hj
        | succ i =>
          rw [List.getElem?_append_right (by show 4 ≤ _; omega), show (i + 1) * 4 + j - (frS a).length = i * 4 + j by show (i + 1) * 4 + j - 4 = _; omega]
          exact ih i (by simpa using hf) j v hj
    have cell : ∀ j v, (frS f)[j]? = some v → w.cell? ⟨g, i * 4 + j, none⟩ = some v := fun j v hj => by
      have hj4 : j < 4 := (List.getElem?_eq_some_iff.1 hj).1
      rw [cell_of_row _ _ _ _ _ _ hh]
      have hk := key l i hf j v hj
      rw [← ht, List.getElem?_take, if_pos (by omega)] at hk
      simpa using hk
    exact ⟨g, hs, hc, hm, cell 0 _ rfl, cell 1 _ rfl, cell 2 _ rfl, cell 3 _ rfl⟩
theorem FoAt.empty (B : Nat) (w : World) : FoAt B w none 0 [] := ⟨rfl, Or.inl ⟨rfl, rfl⟩⟩
/-- append(l, f) where f lies in a block. -/
theorem wpList_append_fr {ops : Array Oper} {rest : List Oper} {o : Oper} {a : Act} {w : World} {Q : Exit → Act → World → Prop} (hgd : o.guard = none) (x y : Operand) (ho : o.op = .call { callee := .builtin .append, args := #[x, y], argTypes := #[22, 22] })
    {B : Nat} {s : Option Addr} {n cap g c : Nat} {l : List Cm.Fr} (f : Cm.Fr) (hx : a.eval x = .slice s n cap) (hy : a.eval y = .slice (some ⟨g, 0, none⟩) 1 c) (hn : n = l.length) (h : FoAt B w s cap l) (hf : ∀ j v, (frS f)[j]? = some v → w.cell? ⟨g, j, none⟩ = some v) (hB : B ≤ w.heap.size) (hl : l.length ≤ 1000)
    (hk : ∀ s' cap' w', FoAt B w' s' cap' (l ++ [f]) → w.grownBy w' (s.map (·.block)) → (∀ q, s' = some q → s.map (·.block) = some q.block ∨ q.block = w.heap.size) → wpList Tryd.prog ops Q rest (a.put o.dst (.slice s' (n + 1) cap')) w') : wpList Tryd.prog ops Q (o :: rest) a w := by
  subst hn
  obtain ⟨i0, hi, hz0, hz1, hz2⟩ := info_parts frInfo
  refine wpList_append_lies (P := Tryd.prog) w hgd x y 22 ho B 26 i0 _ 4 32 Tryd.underlying22 hi hz0 hz1 hz2 rfl (by decide) (.slice s l.length cap) l.length (frC l) hx h ⟨g, 0, none⟩ 1 c (frS f) hy rfl (fun j u hu => by
    have hadd : (⟨g, 0, none⟩ : Addr).add j = ⟨g, j, none⟩ := by unfold Addr.add; split <;> simp_all
    rw [hadd]; exact hf j u hu) (fun u hu => frC_one [f] u (by unfold frC; simpa using hu)) (by decide) (by simp only [maxLen]; omega) (by omega) hB w.heap.size rfl ?_
  intro g' cap' w' h1 h2 h3 h4
  have e : (Value.slice s l.length cap).ownBlock = s.map (·.block) := by cases s <;> rfl
  rw [e] at h2 h3
  refine hk (some ⟨g', 0, none⟩) cap' w' ?_ h2 ?_
  · show World.ownsRow _ _ _ _ _ _ _
    rw [List.length_append, show frC (l ++ [f]) = frC l ++ frS f by unfold frC; rw [List.flatMap_append]; simp]
    exact h1
  · intro q hq
    injection hq with hq
    subst hq
    exact h3
abbrev wsC (ws : Nat → Bool) : Array Value := #[.bool (ws 0), .bool (ws 1), .bool (ws 2), .bool (ws 3)]
/-- The wire, who waits, what was sent. -/
structure Hold (At : Ob.A Mm.Wi) (W w : World) (g8 p : Nat) (ws : Nat → Bool) (V : Mm.Wi) (sO : Option Addr) (cO : Nat) (O : List Cm.Fr) : Prop where
  ex : ∃ P : Nat → Prop, OwnW At P w p V ∧ Ctx W P w ∧ ¬ P g8 ∧ ∀ q, sO = some q → ¬ P q.block
  wc : w.heap[g8]? = some (.cells (wsC ws) 31 (0, 0))
  gW : W.heap.size ≤ g8
  ord : FoAt W.heap.size w sO cO O
  ne : ∀ q, sO = some q → q.block ≠ g8
theorem Hold.below {W w : World} {g8 p : Nat} {ws : Nat → Bool} {V : Mm.Wi} {sO : Option Addr} {cO : Nat} {O : List Cm.Fr} (h : Hold At W w g8 p ws V sO cO O) : Below W.heap.size W w := by obtain ⟨P, _, hC, _⟩ := h.ex; exact hC.below
theorem Hold.tab {W w : World} {g8 p : Nat} {ws : Nat → Bool} {V : Mm.Wi} {sO : Option Addr} {cO : Nat} {O : List Cm.Fr} (h : Hold At W w g8 p ws V sO cO O) : Tab w := by obtain ⟨P, _, hC, _⟩ := h.ex; exact hC.tab
theorem Hold.lt {W w : World} {g8 p : Nat} {ws : Nat → Bool} {V : Mm.Wi} {sO : Option Addr} {cO : Nat} {O : List Cm.Fr} (h : Hold At W w g8 p ws V sO cO O) : g8 < w.heap.size := (Array.getElem?_eq_some_iff.1 h.wc).1
theorem Hold.on (S : WireSpec At) {W w w' : World} {g8 p : Nat} {ws : Nat → Bool} {V : Mm.Wi} {sO : Option Addr} {cO : Nat} {O : List Cm.Fr} (h : Hold At W w g8 p ws V sO cO O) (hb : Below w.heap.size w w') : Hold At W w' g8 p ws V sO cO O := by
  obtain ⟨P, hO, hC, h8, hq⟩ := h.ex
  exact ⟨⟨P, hO.on S hb, hC.more hb, h8, hq⟩, (hb.block _ h.lt).trans h.wc, h.gW, h.ord.on (fun q e => hb.block _ (h.ord.zero q e).2.2.2), h.ne⟩
theorem Hold.len (S : WireSpec At) {W w : World} {g8 p : Nat} {ws : Nat → Bool} {V : Mm.Wi} {sO : Option Addr} {cO : Nat} {O : List Cm.Fr} (h : Hold At W w g8 p ws V sO cO O) : V.qs.length = V.ms.length := by obtain ⟨P, hO, _⟩ := h.ex; exact (hO.sz S).1
theorem ho_ask (S : WireSpec At) {W w : World} {g8 p : Nat} {ws : Nat → Bool} {V V' : Mm.Wi} {sO : Option Addr} {cO : Nat} {O : List Cm.Fr} (who : Int) (f : Cm.Fr) {k : Nat} (hm : Mm.wask V who f = (k, V')) (hw : (Lit.int .i64 who).wf = true) (h1 : f.2.1 < 4294967296) (h2 : f.2.2.2.length ≤ 1000) (h : Hold At W w g8 p ws V sO cO O) :
    Calls Tryd.prog 15 #[bptr p, .int .i64 who, frV f] w fun e w' => e = .returned (.int .i64 (k : Int)) ∧ Hold At W w' g8 p ws V' sO cO O := by
  obtain ⟨P, hO, hC, h8, hq⟩ := h.ex
  exact (ow_ask S who f hm hw h1 h2 hO hC).mono fun e w' ⟨he, hO', hC', hk⟩ => ⟨he, ⟨P, hO', hC', h8, hq⟩, (hk.block _ h.lt h8).trans h.wc, h.gW, h.ord.on (fun q e => hk.block _ (h.ord.zero q e).2.2.2 (hq q e)), h.ne⟩
/-- What a bit tells is a list of its own. -/
structure StepNew (At : Ob.A Mm.Wi) : Prop where
  step : ∀ (w : World) (p : Nat) (F : Nat → Prop) (W : Mm.Wi) (fl : Bool), At w p F W → Tab w → W.bs.length ≤ 100000 →
    Calls Tryd.prog 16 #[bptr p, .bool fl] w fun e w' => ∃ s cap, e = .returned (.slice s (Mm.wtold W fl).length cap) ∧ EvIn w' s cap (Mm.wtold W fl) ∧ (∀ q, s = some q → w.heap.size ≤ q.block) ∧ ∃ F', At w' p F' (Mm.wnext W fl) ∧ (∀ g, F' g → F g ∨ w.heap.size ≤ g) ∧ Kept F w w'
theorem ho_step (S : StepNew At) {W w : World} {g8 p : Nat} {ws : Nat → Bool} {V : Mm.Wi} {sO : Option Addr} {cO : Nat} {O : List Cm.Fr} (fl : Bool) (hl : V.bs.length ≤ 100000) (h : Hold At W w g8 p ws V sO cO O) :
    Calls Tryd.prog 16 #[bptr p, .bool fl] w fun e w' => ∃ s cap, e = .returned (.slice s (Mm.wtold V fl).length cap) ∧ EvIn w' s cap (Mm.wtold V fl) ∧ (∀ g o, s = some ⟨g, o, none⟩ → g ≠ g8 ∧ ∀ q, sO = some q → q.block ≠ g) ∧ Hold At W w' g8 p ws (Mm.wnext V fl) sO cO O := by
  obtain ⟨P, hO, hC, h8, hq⟩ := h.ex
  obtain ⟨F, hA, hF⟩ := hO
  refine (S.step w p F V fl hA hC.tab hl).mono fun e w' ⟨s, cap, he, hE, hn, F', hA', hs, hk⟩ => ⟨s, cap, he, hE, fun g o e => ?_, ⟨P, ⟨F', hA', fun g hg => (hs g hg).elim (hF g) (hC.room g)⟩, hC.next (hk.mono hF), h8, hq⟩, (hk.block _ h.lt (fun k => h8 (hF _ k))).trans h.wc, h.gW, h.ord.on (fun q e => hk.block _ (h.ord.zero q e).2.2.2 (fun k => hq q e (hF _ k))), h.ne⟩
  have h1 := hn _ e
  have h2 := h.lt
  refine ⟨fun k => ?_, fun q eq k => ?_⟩
  · have h1 : w.heap.size ≤ g := h1
    omega
  · have h1 : w.heap.size ≤ g := h1
    have h3 := (h.ord.zero q eq).2.2.2
    omega
/-- A frame's four cells within an event's. -/
def Ev1F (w : World) (g o : Nat) (f : Cm.Fr) : Prop := w.cell? ⟨g, o + 1, none⟩ = some (.bool f.1) ∧ w.cell? ⟨g, o + 2, none⟩ = some (.int .u32 (f.2.1 : Int)) ∧ w.cell? ⟨g, o + 3, none⟩ = some (.bool f.2.2.1) ∧ w.cell? ⟨g, o + 4, none⟩ = some (.string ⟨f.2.2.2.toArray⟩)
theorem cell_blk {w w' : World} {g k : Nat} (h : w'.heap[g]? = w.heap[g]?) : w'.cell? ⟨g, k, none⟩ = w.cell? ⟨g, k, none⟩ := by unfold World.cell?; rw [h]
theorem Ev1F.on {w w' : World} {g o : Nat} {f : Cm.Fr} (h : Ev1F w g o f) (hb : w'.heap[g]? = w.heap[g]?) : Ev1F w' g o f := ⟨(cell_blk hb).trans h.1, (cell_blk hb).trans h.2.1, (cell_blk hb).trans h.2.2.1, (cell_blk hb).trans h.2.2.2⟩
theorem Hold.start (S : WireSpec At) {W w : World} {P : Nat → Prop} {p : Nat} {V : Mm.Wi} (hO : OwnW At P w p V) (hC : Ctx W P w) : Hold At W (w.alloc (.cells (wsC (fun _ => false)) 31)) w.heap.size p (fun _ => false) V none 0 [] := by
  have hb : Below w.heap.size w (w.alloc (.cells (wsC (fun _ => false)) 31)) := (Below.refl _ _).alloc (Nat.le_refl _) _
  exact ⟨⟨_, (hO.avoid S w.heap.size (Nat.le_refl _)).on S hb, (hC.more hb).avoid w.heap.size (by simp), fun k => k.2 rfl, fun q e => by cases e⟩, heap_alloc_new _ _, hC.below.size, FoAt.empty _ _, fun q e => by cases e⟩
theorem ho_mac (S : WireSpec At) {W w : World} {g8 p : Nat} {ws : Nat → Bool} {V : Mm.Wi} {sO : Option Addr} {cO : Nat} {O : List Cm.Fr} (i : Nat) (hi : i < V.ms.length) (h : Hold At W w g8 p ws V sO cO O) :
    Calls Tryd.prog 12 #[bptr p, .int .i64 (i : Int)] w fun e w' => e = .returned (bptr (V.qs.getD i 0)) ∧ Hold At W w' g8 p ws V sO cO O := by
  obtain ⟨P, hO, hC, h8, hq⟩ := h.ex
  exact (ow_mac S i hi hO).mono fun e w' ⟨he, hb⟩ => ⟨he, h.on S hb⟩
theorem ho_idle (S : WireSpec At) {W w : World} {g8 p : Nat} {ws : Nat → Bool} {V : Mm.Wi} {sO : Option Addr} {cO : Nat} {O : List Cm.Fr} (i : Nat) {m : Mm.St} {b : Bool} (hi : V.ms[i]? = some m) (hm : decide (m.ph = .idle) = b) (h : Hold At W w g8 p ws V sO cO O) :
    Calls Tryd.prog 13 #[bptr (V.qs.getD i 0)] w fun e w' => e = .returned (.bool b) ∧ Hold At W w' g8 p ws V sO cO O := by
  obtain ⟨P, hO, hC, h8, hq⟩ := h.ex
  exact (ow_idle S (W0 := W) i hi hm hO hC.tab).mono fun e w' ⟨he, hb⟩ => ⟨he, h.on S hb⟩
theorem ho_busy (S : WireSpec At) {W w : World} {g8 p : Nat} {ws : Nat → Bool} {V : Mm.Wi} {sO : Option Addr} {cO : Nat} {O : List Cm.Fr} (i : Nat) {m : Mm.St} {b : Bool} (hi : V.ms[i]? = some m) (hm : Mm.busy m = b) (h : Hold At W w g8 p ws V sO cO O) :
    Calls Tryd.prog 14 #[bptr (V.qs.getD i 0)] w fun e w' => e = .returned (.bool b) ∧ Hold At W w' g8 p ws V sO cO O := by
  obtain ⟨P, hO, hC, h8, hq⟩ := h.ex
  exact (ow_busy S i hi hm hO hC.tab).mono fun e w' ⟨he, hb⟩ => ⟨he, h.on S hb⟩
theorem wsC_set (ws : Nat → Bool) (i : Nat) (hi : i < 4) (b : Bool) : (wsC ws).setIfInBounds i (.bool b) = wsC (fun k => if k = i then b else ws k) := by
  obtain rfl | rfl | rfl | rfl : i = 0 ∨ i = 1 ∨ i = 2 ∨ i = 3 := by omega
  all_goals rfl
theorem Hold.set (S : WireSpec At) {W w : World} {g8 p : Nat} {ws : Nat → Bool} {V : Mm.Wi} {sO : Option Addr} {cO : Nat} {O : List Cm.Fr} (h : Hold At W w g8 p ws V sO cO O) (i : Nat) (hi : i < 4) (b : Bool) : Hold At W (w.setCell ⟨g8, i, none⟩ (.bool b)) g8 p (fun k => if k = i then b else ws k) V sO cO O := by
  obtain ⟨P, hO, hC, h8, hq⟩ := h.ex
  have hk : Kept (fun g => g = g8) w (w.setCell ⟨g8, i, none⟩ (.bool b)) := Kept.set _ _ _ rfl
  obtain ⟨F, hA, hF⟩ := hO
  refine ⟨⟨P, ⟨F, S.is.on hA (fun g hg => hk.block g (S.is.lt hA g hg) (fun e => h8 (e ▸ hF g hg))), hF⟩, ⟨hC.below.setCell h.gW _, fun g hg => hC.room g (Nat.le_trans hk.size hg), hC.low, hC.tabW⟩, h8, hq⟩, ?_, h.gW, h.ord.on (fun q e => hk.block _ (h.ord.zero q e).2.2.2 (h.ne q e)), h.ne⟩
  rw [heap_setCell_same _ _ _ _ _ _ h.wc, wsC_set ws i hi b]
theorem Hold.ws {W w : World} {g8 p : Nat} {ws ws' : Nat → Bool} {V : Mm.Wi} {sO : Option Addr} {cO : Nat} {O : List Cm.Fr} (h : Hold At W w g8 p ws V sO cO O) (e : ∀ k, k < 4 → ws' k = ws k) : Hold At W w g8 p ws' V sO cO O :=
  ⟨h.ex, by rw [show wsC ws' = wsC ws by unfold wsC; rw [e 0 (by decide), e 1 (by decide), e 2 (by decide), e 3 (by decide)]]; exact h.wc, h.gW, h.ord, h.ne⟩
theorem Hold.cell {W w : World} {g8 p : Nat} {ws : Nat → Bool} {V : Mm.Wi} {sO : Option Addr} {cO : Nat} {O : List Cm.Fr} (h : Hold At W w g8 p ws V sO cO O) (i : Nat) (hi : i < 4) : w.cell? ⟨g8, i, none⟩ = some (.bool (ws i)) ∧ w.frozen? ⟨g8, i, none⟩ = false := by
  refine ⟨?_, frozen_of_row _ _ _ _ _ h.wc⟩
  rw [cell_of_row _ _ _ _ _ _ h.wc]
  obtain rfl | rfl | rfl | rfl : i = 0 ∨ i = 1 ∨ i = 2 ∨ i = 3 := by omega
  all_goals rfl
/-- A frame was laid behind those that were sent. -/
theorem Hold.app (S : WireSpec At) {W w w' : World} {g8 p : Nat} {ws : Nat → Bool} {V : Mm.Wi} {sO sN : Option Addr} {cO cN : Nat} {O ON : List Cm.Fr} (h : Hold At W w g8 p ws V sO cO O) (hN : FoAt W.heap.size w' sN cN ON) (hg : w.grownBy w' (sO.map (·.block))) (hs : ∀ q, sN = some q → sO.map (·.block) = some q.block ∨ q.block = w.heap.size) : Hold At W w' g8 p ws V sN cN ON := by
  obtain ⟨P, hO, hC, h8, hq⟩ := h.ex
  obtain ⟨F, hA, hF⟩ := hO
  have hlt := S.is.lt hA
  have hblk : ∀ g, g < w.heap.size → (∀ q, sO = some q → q.block ≠ g) → w'.heap[g]? = w.heap[g]? := fun g hg' hne => hg.block g hg' (fun e => by
    cases hsO : sO with
    | none => rw [hsO] at e; cases e
    | some a => rw [hsO] at e; exact hne a hsO (by simpa using e.symm))
  have hbW : Below W.heap.size W w' := ⟨hg.os.trans hC.below.os, hg.tape.trans hC.below.tape, hg.output.trans hC.below.output, Nat.le_trans hC.below.size hg.size, fun k hk => (hblk k (Nat.lt_of_lt_of_le hk hC.below.size) (fun q e => by have := (h.ord.zero q e).2.2.1; omega)).trans (hC.below.block k hk)⟩
  refine ⟨⟨fun g => P g ∧ ∀ q, sN = some q → g ≠ q.block, ⟨F, S.is.on hA (fun g hg' => hblk g (hlt g hg') (fun q e k => hq q e (k ▸ hF g hg'))), fun g hg' => ⟨hF g hg', fun q e k => ?_⟩⟩, ⟨hbW, fun g hg' => ⟨hC.room g (Nat.le_trans hg.size hg'), fun q e k => ?_⟩, fun g hg' => hC.low g hg'.1, hC.tabW⟩, fun k => h8 k.1, fun q e k => k.2 q e rfl⟩, ?_, h.gW, hN, ?_⟩
  · rcases hs q e with z | z
    · cases hsO : sO with
      | none => rw [hsO] at z; cases z
      | some a =>
        rw [hsO] at z
        have : a.block = q.block := by simpa using z
        exact hq a hsO (by rw [this, ← k]; exact hF g hg')
    · have := hlt g hg'
      omega
  · have := (hN.zero q e).2.2.2
    omega
  · exact (hblk g8 h.lt h.ne).trans h.wc
  · intro q e
    rcases hs q e with z | z
    · cases hsO : sO with
      | none => rw [hsO] at z; cases z
      | some a =>
        rw [hsO] at z
        have : a.block = q.block := by simpa using z
        rw [← this]
        exact h.ne a hsO
    · have := h.lt
      omega
end Go.Proofs.YtoohmpkhljfpbaaDoor
