/- Layer 17: a queue, a copy of it, and the document's queue, all apart; blocks beside them that stay. -/
import Derived.Test.YtkgeknkppnadfaaVg
namespace Go.Proofs.Ytkgeknkppnadfaa
open Go.RowKit Go.WideShapes
set_option linter.unusedVariables false
/-- The document's queue as a thing of its own: its row, its list. -/
def RqAt : Ob.A Vq.St := fun w r F s => ∃ a c, (∀ g, F g ↔ g = r ∨ Sg.At_ a c g) ∧ Rq 0 w r s a c ∧ Vq.Ok s
theorem RowT.lt17 {T : TypeId} {w : World} {p : Nat} {cs : Array Value} (h : RowT T w p cs) : p < w.heap.size := (Array.getElem?_eq_some_iff.1 (show w.heap[p]? = some _ from h)).1
theorem rq_is : Ob.Is RqAt where
  on := fun {w w' p F s} ⟨a, c, hF, h, hO⟩ hk => by
    have hr : w'.heap[p]? = w.heap[p]? := hk _ ((hF _).2 (Or.inl rfl))
    have hrow : RowT 49 w' p #[.int .i64 (s.room : Int), .slice a s.l.length c] := hr.trans h.row
    refine ⟨a, c, hF, ⟨hrow, ?_⟩, hO⟩
    by_cases h0 : 0 < c
    · obtain ⟨g, o, cur, e1, hB, hh⟩ := h.ol.ty h0
      subst e1
      have hg : w'.heap[g]? = w.heap[g]? := hk _ ((hF _).2 (Or.inr ⟨h0, rfl⟩))
      have hgl : g < w.heap.size := (Array.getElem?_eq_some_iff.1 hh).1
      have hgl2 : g < w'.heap.size := (Array.getElem?_eq_some_iff.1 (hg.trans hh)).1
      refine ⟨⟨h.ol.sl.1, h.ol.sl.2.1, h.ol.sl.2.2.1, ?_⟩, fun _ => ⟨g, o, cur, rfl, hB, hg.trans hh⟩⟩
      rcases h.ol.sl.2.2.2 with hz | ⟨g', o', e2, hg', hc, hf⟩
      · exact Or.inl hz
      · injection e2 with e2
        injection e2 with e2 e3
        subst e2 e3
        exact Or.inr ⟨g, o, rfl, hgl2, fun k v hk => (Sg.cell_blk hg).trans (hc k v hk), fun j hj => ⟨by rw [Sg.cell_blk hg]; exact (hf j hj).1, by rw [Sg.frozen_blk hg]; exact (hf j hj).2⟩⟩
    · exact ⟨⟨h.ol.sl.1, h.ol.sl.2.1, h.ol.sl.2.2.1, Or.inl (by omega)⟩, fun k => absurd k h0⟩
  lt := fun {w p F s} ⟨a, c, hF, h, hO⟩ g hg => by
    rcases (hF g).1 hg with rfl | hg
    · exact h.row.lt17
    · exact h.ol.lt g hg
theorem rq_makes (w : World) (x : Int) : Ob.Makes Try.prog RqAt 26 #[.int .i64 x] w ⟨Vq.held x, []⟩ := by
  refine (rq_new w x).mono ?_
  rintro e w' ⟨r, rfl, hr, h, hb⟩
  obtain ⟨k1, k2⟩ := Vq.held_rng x
  refine ⟨r, fun g => g = r ∨ Sg.At_ none 0 g, rfl, ⟨none, 0, fun g => Iff.rfl, ⟨h.row, h.ol.mono (Nat.zero_le _)⟩, ⟨k1, k2, Nat.zero_le _⟩⟩, fun g hg => ?_, hb⟩
  rcases hg with rfl | hg
  · exact hr
  · exact absurd hg.1 (Nat.lt_irrefl 0)
theorem rq_puts (w : World) (r : Nat) (F : Nat → Prop) (s : Vq.St) (m : Int) (D : ByteArray) (h : RqAt w r F s) : Ob.Turns Try.prog RqAt 33 #[Ob.ptr r, .int .i64 m, .string D] w r F (Vq.putS s ⟨m, D⟩) (.int .i64 (Vq.putE s)) := by
  obtain ⟨a, c, hF, h, hO⟩ := h
  refine (rq_put 0 w r s a c m D (Nat.zero_le _) hO h).mono ?_
  rintro e w' ⟨rfl, a', c', h', hl, hk⟩
  refine ⟨rfl, fun g => g = r ∨ Sg.At_ a' c' g, ⟨a', c', fun g => Iff.rfl, h', Vq.ok_put hO _⟩, fun g hg => ?_, hk.mono (fun g hg => (hF g).2 (Or.inl hg))⟩
  rcases hg with rfl | hg
  · exact Or.inl ((hF _).2 (Or.inl rfl))
  · exact (hl g hg).imp (fun k => (hF g).2 (Or.inr k)) id
theorem rq_takes (w : World) (r : Nat) (F : Nat → Prop) (s : Vq.St) (h : RqAt w r F s) : Ob.Turns Try.prog RqAt 36 #[Ob.ptr r] w r F (Vq.takeS s) (.tuple #[.agg #[.int .i64 (Vq.hd s).msg, .string (Vq.hd s).data], .int .i64 (Vq.takeE s)]) := by
  obtain ⟨a, c, hF, h, hO⟩ := h
  refine (rq_take 0 w r s a c (Nat.zero_le _) hO h).mono ?_
  rintro e w' ⟨rfl, ⟨a', c', h', hl⟩, hk⟩
  refine ⟨rfl, fun g => g = r ∨ Sg.At_ a' c' g, ⟨a', c', fun g => Iff.rfl, h', Vq.ok_take hO⟩, fun g hg => ?_, hk.mono (fun g hg => (hF g).2 (Or.inl hg))⟩
  rcases hg with rfl | hg
  · exact Or.inl ((hF _).2 (Or.inl rfl))
  · exact (hl g hg).imp (fun k => (hF g).2 (Or.inr k)) id
/-- A queue and the document's. -/
def Vp (At : Ob.A Vq.St) (W w : World) (p r : Nat) (s : Vq.St) (R : List (Nat × Obj)) : Prop :=
  ∃ F H, At w p F s ∧ RqAt w r H s ∧ (∀ g, F g → W.heap.size ≤ g) ∧ (∀ g, H g → W.heap.size ≤ g) ∧ (∀ g, F g → ¬ H g) ∧ Below W.heap.size W w ∧ ∀ x ∈ R, w.heap[x.1]? = some x.2 ∧ ¬ F x.1 ∧ ¬ H x.1
/-- A queue, a copy of it, and the document's; each in a state of its own. -/
def Vt (At : Ob.A Vq.St) (W w : World) (p q r : Nat) (s t u : Vq.St) (R : List (Nat × Obj)) : Prop :=
  ∃ F G H, At w p F s ∧ At w q G t ∧ RqAt w r H u ∧ (∀ g, F g → W.heap.size ≤ g) ∧ (∀ g, G g → W.heap.size ≤ g) ∧ (∀ g, H g → W.heap.size ≤ g) ∧ (∀ g, F g → ¬ G g) ∧ (∀ g, F g → ¬ H g) ∧ (∀ g, G g → ¬ H g) ∧ Below W.heap.size W w ∧ ∀ x ∈ R, w.heap[x.1]? = some x.2 ∧ ¬ F x.1 ∧ ¬ G x.1 ∧ ¬ H x.1
section
variable {At : Ob.A Vq.St} {W w w' : World} {p q r : Nat} {s s' t t' u u' : Vq.St} {R : List (Nat × Obj)} {P : Program} {f : FuncId} {args : Array Value} {v : Value}
theorem Vt.row (h : Vt At W w p q r s t u R) {g : Nat} {o : Obj} (hm : (g, o) ∈ R) : w.heap[g]? = some o := by obtain ⟨F, G, H, _, _, _, _, _, _, _, _, _, _, hr⟩ := h; exact (hr _ hm).1
theorem Vp.row (h : Vp At W w p r s R) {g : Nat} {o : Obj} (hm : (g, o) ∈ R) : w.heap[g]? = some o := by obtain ⟨F, H, _, _, _, _, _, _, hr⟩ := h; exact (hr _ hm).1
theorem Vp.bel (h : Vp At W w p r s R) : Below W.heap.size W w := by obtain ⟨F, H, _, _, _, _, _, hb, _⟩ := h; exact hb
theorem Vt.bel (h : Vt At W w p q r s t u R) : Below W.heap.size W w := by obtain ⟨F, G, H, _, _, _, _, _, _, _, _, _, hb, _⟩ := h; exact hb
theorem Vp.ok (h : Vp At W w p r s R) : Vq.Ok s := by obtain ⟨F, H, _, ⟨a, c, _, _, hO⟩, _⟩ := h; exact hO
theorem Vp.less {R' : List (Nat × Obj)} (h : Vp At W w p r s R) (hs : ∀ x ∈ R', x ∈ R) : Vp At W w p r s R' := by
  obtain ⟨F, H, h1, h2, h3, h4, h5, h6, h7⟩ := h
  exact ⟨F, H, h1, h2, h3, h4, h5, h6, fun x hx => h7 x (hs x hx)⟩
theorem Vp.on (S : QueueSpec At) (h : Vp At W w p r s R) (hb : Below w.heap.size w w') : Vp At W w' p r s R := by
  obtain ⟨F, H, h1, h2, h3, h4, h5, h6, h7⟩ := h
  refine ⟨F, H, S.is.on h1 (fun g hg => hb.block g (S.is.lt h1 g hg)), rq_is.on h2 (fun g hg => hb.block g (rq_is.lt h2 g hg)), h3, h4, h5, h6.trans (hb.mono h6.size), fun x hx => ⟨?_, (h7 x hx).2⟩⟩
  rw [hb.block _ (Array.getElem?_eq_some_iff.1 (h7 x hx).1).1]
  exact (h7 x hx).1
theorem Vt.on (S : QueueSpec At) (h : Vt At W w p q r s t u R) (hb : Below w.heap.size w w') : Vt At W w' p q r s t u R := by
  obtain ⟨F, G, H, h1, h2, h3, b1, b2, b3, d1, d2, d3, hw, hr⟩ := h
  refine ⟨F, G, H, S.is.on h1 (fun g hg => hb.block g (S.is.lt h1 g hg)), S.is.on h2 (fun g hg => hb.block g (S.is.lt h2 g hg)), rq_is.on h3 (fun g hg => hb.block g (rq_is.lt h3 g hg)), b1, b2, b3, d1, d2, d3, hw.trans (hb.mono hw.size), fun x hx => ⟨?_, (hr x hx).2⟩⟩
  rw [hb.block _ (Array.getElem?_eq_some_iff.1 (hr x hx).1).1]
  exact (hr x hx).1
theorem Vp.al (S : QueueSpec At) (h : Vp At W w p r s R) (o : Obj) : Vp At W (w.alloc o) p r s ((w.heap.size, o) :: R) := by
  have hb : Below w.heap.size w (w.alloc o) := (Below.refl _ _).alloc (Nat.le_refl _) _
  have h' := h.on S hb
  obtain ⟨F, H, h1, h2, h3, h4, h5, h6, h7⟩ := h
  refine ⟨F, H, S.is.on h1 (fun g hg => hb.block g (S.is.lt h1 g hg)), rq_is.on h2 (fun g hg => hb.block g (rq_is.lt h2 g hg)), h3, h4, h5, h6.trans (hb.mono h6.size), fun x hx => ?_⟩
  rcases List.mem_cons.1 hx with rfl | hx
  · exact ⟨heap_alloc_new w o, fun hf => Nat.lt_irrefl _ (S.is.lt h1 _ hf), fun hf => Nat.lt_irrefl _ (rq_is.lt h2 _ hf)⟩
  · exact ⟨h'.row hx, (h7 x hx).2⟩
theorem Vt.al (S : QueueSpec At) (h : Vt At W w p q r s t u R) (o : Obj) : Vt At W (w.alloc o) p q r s t u ((w.heap.size, o) :: R) := by
  have hb : Below w.heap.size w (w.alloc o) := (Below.refl _ _).alloc (Nat.le_refl _) _
  have h' := h.on S hb
  obtain ⟨F, G, H, h1, h2, h3, b1, b2, b3, d1, d2, d3, hw, hr⟩ := h
  refine ⟨F, G, H, S.is.on h1 (fun g hg => hb.block g (S.is.lt h1 g hg)), S.is.on h2 (fun g hg => hb.block g (S.is.lt h2 g hg)), rq_is.on h3 (fun g hg => hb.block g (rq_is.lt h3 g hg)), b1, b2, b3, d1, d2, d3, hw.trans (hb.mono hw.size), fun x hx => ?_⟩
  rcases List.mem_cons.1 hx with rfl | hx
  · exact ⟨heap_alloc_new w o, fun hf => Nat.lt_irrefl _ (S.is.lt h1 _ hf), fun hf => Nat.lt_irrefl _ (S.is.lt h2 _ hf), fun hf => Nat.lt_irrefl _ (rq_is.lt h3 _ hf)⟩
  · exact ⟨h'.row hx, (hr x hx).2⟩
/-- The document's queue, made beside a queue of one's own. -/
theorem Qs.ref (S : QueueSpec At) (h : Qs At W w p s []) (x : Int) (hs : s = ⟨Vq.held x, []⟩) : Calls Try.prog 26 #[.int .i64 x] w fun e w' => ∃ r, e = .returned (Ob.ptr r) ∧ Vp At W w' p r s [] := by
  subst hs
  obtain ⟨F, h1, h2, h3, h4⟩ := h
  refine (rq_makes w x).mono ?_
  rintro e w' ⟨r, H, rfl, hA, hH, hb⟩
  exact ⟨r, rfl, F, H, S.is.on h1 (fun g hg => hb.block g (S.is.lt h1 g hg)), hA, h2, fun g hg => Nat.le_trans h3.size (hH g hg), fun g hf hg => by have := S.is.lt h1 g hf; have := hH g hg; omega, h3.trans (hb.mono h3.size), fun x hx => by cases hx⟩
theorem Vp.copy (S : QueueSpec At) (h : Vp At W w p r s R) : Calls Try.prog 28 #[Ob.ptr p] w fun e w' => ∃ q, e = .returned (Ob.ptr q) ∧ Vt At W w' p q r s s s R := by
  obtain ⟨F, H, h1, h2, h3, h4, h5, h6, h7⟩ := h
  refine (S.copy w p F s h1).mono ?_
  rintro e w' ⟨q, F', G, rfl, hA, hB, hs, hg, hd, hk⟩
  refine ⟨q, rfl, F', G, H, hA, hB, rq_is.on h2 (fun g hg => hk.block g (rq_is.lt h2 g hg) (fun hf => h5 g hf hg)), fun g hg => (hs g hg).elim (h3 g) (Nat.le_trans h6.size), fun g hgg => Nat.le_trans h6.size (hg g hgg), h4, hd, fun g hf hh => (hs g hf).elim (fun k => h5 g k hh) (fun k => by have := rq_is.lt h2 g hh; omega), fun g hgg hh => by have := hg g hgg; have := rq_is.lt h2 g hh; omega, h6.trans (hk.below h3 h6.size), fun x hx => ?_⟩
  obtain ⟨r1, r2, r3⟩ := h7 x hx
  have hl := (Array.getElem?_eq_some_iff.1 r1).1
  exact ⟨(hk.block _ hl r2).trans r1, fun hf => (hs _ hf).elim r2 (fun k => by omega), fun hf => by have := hg _ hf; omega, r3⟩
theorem Vt.less {R' : List (Nat × Obj)} (h : Vt At W w p q r s t u R) (hs : ∀ x ∈ R', x ∈ R) : Vt At W w p q r s t u R' := by
  obtain ⟨F, G, H, h1, h2, h3, b1, b2, b3, d1, d2, d3, hw, hr⟩ := h
  exact ⟨F, G, H, h1, h2, h3, b1, b2, b3, d1, d2, d3, hw, fun x hx => hr x (hs x hx)⟩
theorem Vt.turn (S : QueueSpec At) (c : ∀ F, At w p F s → Ob.Turns P At f args w p F s' v) (h : Vt At W w p q r s t u R) : Calls P f args w fun e w' => e = .returned v ∧ Vt At W w' p q r s' t u R := by
  obtain ⟨F, G, H, h1, h2, h3, b1, b2, b3, d1, d2, d3, hw, hr⟩ := h
  refine (c F h1).mono fun e w' ⟨he, F', hA, hs, hk⟩ => ⟨he, F', G, H, hA, S.is.on h2 (fun g hg => hk.block g (S.is.lt h2 g hg) (fun hf => d1 g hf hg)), rq_is.on h3 (fun g hg => hk.block g (rq_is.lt h3 g hg) (fun hf => d2 g hf hg)), fun g hg => (hs g hg).elim (b1 g) (Nat.le_trans hw.size), b2, b3, fun g hf hg => (hs g hf).elim (fun k => d1 g k hg) (fun k => by have := S.is.lt h2 g hg; omega), fun g hf hg => (hs g hf).elim (fun k => d2 g k hg) (fun k => by have := rq_is.lt h3 g hg; omega), d3, hw.trans (hk.below b1 hw.size), fun x hx => ?_⟩
  obtain ⟨r1, r2, r3⟩ := hr x hx
  have hl := (Array.getElem?_eq_some_iff.1 r1).1
  exact ⟨(hk.block _ hl r2).trans r1, fun hf => (hs _ hf).elim r2 (fun k => by omega), r3⟩
theorem Vt.swap (h : Vt At W w p q r s t u R) : Vt At W w q p r t s u R := by
  obtain ⟨F, G, H, h1, h2, h3, b1, b2, b3, d1, d2, d3, hw, hr⟩ := h
  exact ⟨G, F, H, h2, h1, h3, b2, b1, b3, fun g hg hf => d1 g hf hg, d3, d2, hw, fun x hx => ⟨(hr x hx).1, (hr x hx).2.2.1, (hr x hx).2.1, (hr x hx).2.2.2⟩⟩
theorem Vt.turn2 (S : QueueSpec At) (c : ∀ F, At w q F t → Ob.Turns P At f args w q F t' v) (h : Vt At W w p q r s t u R) : Calls P f args w fun e w' => e = .returned v ∧ Vt At W w' p q r s t' u R :=
  (h.swap.turn S c).mono fun e w' ⟨he, h⟩ => ⟨he, h.swap⟩
theorem Vt.turn3 (S : QueueSpec At) (c : ∀ F, RqAt w r F u → Ob.Turns P RqAt f args w r F u' v) (h : Vt At W w p q r s t u R) : Calls P f args w fun e w' => e = .returned v ∧ Vt At W w' p q r s t u' R := by
  obtain ⟨F, G, H, h1, h2, h3, b1, b2, b3, d1, d2, d3, hw, hr⟩ := h
  refine (c H h3).mono fun e w' ⟨he, H', hA, hs, hk⟩ => ⟨he, F, G, H', S.is.on h1 (fun g hg => hk.block g (S.is.lt h1 g hg) (fun hf => d2 g hg hf)), S.is.on h2 (fun g hg => hk.block g (S.is.lt h2 g hg) (fun hf => d3 g hg hf)), hA, b1, b2, fun g hg => (hs g hg).elim (b3 g) (Nat.le_trans hw.size), d1, fun g hf hg => (hs g hg).elim (fun k => d2 g hf k) (fun k => by have := S.is.lt h1 g hf; omega), fun g hf hg => (hs g hg).elim (fun k => d3 g hf k) (fun k => by have := S.is.lt h2 g hf; omega), hw.trans (hk.below b3 hw.size), fun x hx => ?_⟩
  obtain ⟨r1, r2, r3, r4⟩ := hr x hx
  have hl := (Array.getElem?_eq_some_iff.1 r1).1
  exact ⟨(hk.block _ hl r4).trans r1, r2, r3, fun hf => (hs _ hf).elim r4 (fun k => by omega)⟩
/-- The copy is let go. -/
theorem Vt.drop (h : Vt At W w p q r s t s R) : Vp At W w p r s R := by
  obtain ⟨F, G, H, h1, h2, h3, b1, b2, b3, d1, d2, d3, hw, hr⟩ := h
  exact ⟨F, H, h1, h3, b1, b3, d2, hw, fun x hx => ⟨(hr x hx).1, (hr x hx).2.1, (hr x hx).2.2.2⟩⟩
/-- The document's queue as blocks that stay. -/
theorem Vp.freeze (S : QueueSpec At) (h : Vp At W w p r s R) : ∃ (a : Option Addr) (c : Nat) (R' : List (Nat × Obj)), s.l.length ≤ c ∧ Lst ((r, .cells #[.int .i64 (s.room : Int), .slice a s.l.length c] 49) :: R') a c s.l.length (s.l.flatMap dC) ∧ Qs At W w p s ((r, .cells #[.int .i64 (s.room : Int), .slice a s.l.length c] 49) :: (R' ++ R)) ∧ ∀ w' R2, Qs At W w' p s R2 → (∀ x ∈ (r, .cells #[.int .i64 (s.room : Int), .slice a s.l.length c] 49) :: R', x ∈ R2) → Vp At W w' p r s [] := by
  obtain ⟨F, H, h1, ⟨a, c, hH, hq, hO⟩, h3, h4, h5, h6, h7⟩ := h
  have hrow : w.heap[r]? = some (.cells #[.int .i64 (s.room : Int), .slice a s.l.length c] 49) := hq.row
  by_cases h0 : 0 < c
  · obtain ⟨g, o, cur, e1, hB, hh⟩ := hq.ol.ty h0
    have hgH : H g := (hH g).2 (Or.inr ⟨h0, by rw [e1]; rfl⟩)
    have hrH : H r := (hH r).2 (Or.inl rfl)
    refine ⟨a, c, [(g, .cells cur 43)], hq.ol.sl.1, ⟨hq.ol.sl.1, hq.ol.sl.2.1, Or.inr ⟨g, o, .cells cur 43, e1, by simp, fun w' hw k v hk => ?_⟩⟩, ⟨F, h1, h3, h6, fun x hx => ?_⟩, fun w' R2 hQ hsub => ?_⟩
    · rcases hq.ol.sl.2.2.2 with hz | ⟨g', o', e2, hg', hc, hf⟩
      · omega
      · rw [e1] at e2
        injection e2 with e2
        injection e2 with e2 e3
        subst e2 e3
        rw [cell_same (w := w) (hw.trans hh.symm)]
        exact hc k v hk
    · simp only [List.singleton_append, List.mem_cons] at hx
      rcases hx with rfl | rfl | hx
      · exact ⟨hrow, fun hf => h5 _ hf hrH⟩
      · exact ⟨hh, fun hf => h5 _ hf hgH⟩
      · exact ⟨(h7 x hx).1, (h7 x hx).2.1⟩
    · obtain ⟨F2, k1, k2, k3, k4⟩ := hQ
      have hr2 := k4 _ (hsub _ (List.mem_cons_self ..))
      have hg2 := k4 (g, .cells cur 43) (hsub _ (by simp))
      dsimp only at hr2 hg2
      have hRq : RqAt w' r H s := rq_is.on (w := w) ⟨a, c, hH, hq, hO⟩ (fun j hj => by
        rcases (hH j).1 hj with rfl | hj
        · exact hr2.1.trans hrow.symm
        · have e3 := hj.2
          rw [e1] at e3
          injection e3 with e3
          dsimp only at e3
          subst e3
          exact hg2.1.trans hh.symm)
      refine ⟨F2, H, k1, hRq, k2, h4, fun j hf hj => ?_, k3, fun x hx => by cases hx⟩
      rcases (hH j).1 hj with rfl | hj
      · exact hr2.2 hf
      · have e3 := hj.2
        rw [e1] at e3
        injection e3 with e3
        dsimp only at e3
        subst e3
        exact hg2.2 hf
  · have hrH : H r := (hH r).2 (Or.inl rfl)
    have hc0 : c = 0 := by omega
    have hn0 : s.l.length = 0 := by have := hq.ol.sl.1; omega
    refine ⟨a, c, [], hq.ol.sl.1, ⟨hq.ol.sl.1, hq.ol.sl.2.1, Or.inl hn0⟩, ⟨F, h1, h3, h6, fun x hx => ?_⟩, fun w' R2 hQ hsub => ?_⟩
    · simp only [List.nil_append, List.mem_cons] at hx
      rcases hx with rfl | hx
      · exact ⟨hrow, fun hf => h5 _ hf hrH⟩
      · exact ⟨(h7 x hx).1, (h7 x hx).2.1⟩
    · obtain ⟨F2, k1, k2, k3, k4⟩ := hQ
      have hr2 := k4 _ (hsub _ (List.mem_cons_self ..))
      dsimp only at hr2
      have hRq : RqAt w' r H s := rq_is.on (w := w) ⟨a, c, hH, hq, hO⟩ (fun j hj => by
        rcases (hH j).1 hj with rfl | hj
        · exact hr2.1.trans hrow.symm
        · exact absurd hj.1 h0)
      refine ⟨F2, H, k1, hRq, k2, h4, fun j hf hj => ?_, k3, fun x hx => by cases hx⟩
      rcases (hH j).1 hj with rfl | hj
      · exact hr2.2 hf
      · exact absurd hj.1 h0
end
end Go.Proofs.Ytkgeknkppnadfaa
