/- Layer 18: steps that came in; a copy of one of two; what a turn leaves of the other. -/
import Derived.Test.YtkgeknkppnadfaaVi
import Derived.Test.YtkgeknkppnadfaaU18
import Derived.Test.YtkgeknkppnadfaaB18
import Derived.ProofKit
import Derived.OpenShut
namespace Go.Proofs.Ytkgeknkppnadfaa
open Go.ChangeShapes Go.WideShapes Go.ChangeAt Go.RowKit
set_option linter.unusedVariables false
/-- The steps' cells, as the walk meets them. -/
def StepRow18 (W : World) (s : Option Addr) (len : Nat) (wh ms : Nat → Int) (ds : Nat → ByteArray) : Prop := len = 0 ∨ ∃ b off, s = some ⟨b, off, none⟩ ∧ ∀ i, i < len →
  W.cell? ⟨b, off + i * 3, none⟩ = some (.int .i64 (wh i)) ∧ W.cell? ⟨b, off + i * 3 + 1, none⟩ = some (.int .i64 (ms i)) ∧ W.cell? ⟨b, off + i * 3 + 2, none⟩ = some (.string (ds i)) ∧
  (Lit.int .i64 (wh i)).wf = true ∧ (Lit.int .i64 (ms i)).wf = true
theorem stFlat18 : Fo.flat Try.prog 4 35 = some [(0, .int .i64), (1, .int .i64), (2, .str)] := by kernel_rfl
theorem steps18_of_trod {H : Type} {enc : TypeId × Value → H} {w : World} {s : Option Addr} {len cap : Nat} {d : DataW H} {p : List MemPlace} (h : DataW.Trod enc Try.prog w 0 (fun _ => true) true 23 (.slice s len cap) d p) : ∃ wh ms ds, StepRow18 w s len wh ms ds := by
  obtain ⟨_, h0 | ⟨b, off, rfl, hc⟩⟩ := Fo.flat_rows 4 (.int .i64) [(1, .int .i64), (2, .str)] 3 Try.underlying23 stFlat18 (by kernel_rfl) h
  · exact ⟨fun _ => 0, fun _ => 0, fun _ => ByteArray.empty, Or.inl h0⟩
  · have key : ∀ i, ∃ t : Int × Int × ByteArray, i < len → w.cell? ⟨b, off + i * 3, none⟩ = some (.int .i64 t.1) ∧ w.cell? ⟨b, off + i * 3 + 1, none⟩ = some (.int .i64 t.2.1) ∧ w.cell? ⟨b, off + i * 3 + 2, none⟩ = some (.string t.2.2) ∧
        (Lit.int .i64 t.1).wf = true ∧ (Lit.int .i64 t.2.1).wf = true := fun i => by
      by_cases hi : i < len
      · have hq := hc i hi
        obtain ⟨v1, c1, n1, rfl, hw1⟩ := hq (0, .int .i64) (by simp)
        obtain ⟨v2, c2, n2, rfl, hw2⟩ := hq (1, .int .i64) (by simp)
        obtain ⟨v3, c3, n3, rfl, _⟩ := hq (2, .str) (by simp)
        refine ⟨(n1, n2, n3), fun _ => ?_⟩
        simp only [← Nat.add_assoc] at c1 c2 c3
        exact ⟨c1, c2, c3, hw1, hw2⟩
      · exact ⟨(0, 0, ByteArray.empty), fun k => absurd k hi⟩
    obtain ⟨F, hF⟩ := Classical.axiomOfChoice key
    exact ⟨fun i => (F i).1, fun i => (F i).2.1, fun i => (F i).2.2, Or.inr ⟨b, off, rfl, hF⟩⟩
theorem Oq.O2.copy3 {P : Program} {σ τ : Type} {At : Ob.A σ} {Bt : Ob.A τ} {W w : World} {p q : Nat} {s : σ} {t : τ} {R : Oq.Rs} {f : FuncId} {args : Array Value} (O' : Ob.Is Bt)
    (c : ∀ F, At w p F s → Calls P f args w fun e w' => ∃ r F' G, e = .returned (Ob.ptr r) ∧ At w' p F' s ∧ At w' r G s ∧ (∀ g, F' g → F g ∨ w.heap.size ≤ g) ∧ (∀ g, G g → w.heap.size ≤ g) ∧ (∀ g, F' g → ¬ G g) ∧ Kept F w w')
    (h : Oq.O2 At Bt W w p s q t R) : Calls P f args w fun e w' => ∃ r, e = .returned (Ob.ptr r) ∧ Oq.O3 At Bt At W w' p s q t r s R := by
  obtain ⟨F, G, h1, h2, b1, b2, d, hw, hr⟩ := h
  refine (c F h1).mono ?_
  rintro e w' ⟨r, F', H, rfl, hA, hA2, hs, hH, hd, hk⟩
  refine ⟨r, rfl, F', G, H, hA, O'.on h2 (fun g hg => hk.block g (O'.lt h2 g hg) (fun hf => d g hf hg)), hA2, fun g hg => (hs g hg).elim (b1 g) (Nat.le_trans hw.size), b2, fun g hg => Nat.le_trans hw.size (hH g hg), fun g hf hg => (hs g hf).elim (fun k => d g k hg) (fun k => by have := O'.lt h2 g hg; omega), hd, fun g hg hh => by have := O'.lt h2 g hg; have := hH g hh; omega, hw.trans (hk.below b1 hw.size), fun x hx => ?_⟩
  obtain ⟨r1, r2, r3⟩ := hr x hx
  have hl := (Array.getElem?_eq_some_iff.1 r1).1
  exact ⟨(hk.block _ hl r2).trans r1, fun hf => (hs _ hf).elim r2 (fun k => by omega), r3, fun hh => by have := hH _ hh; omega⟩
/-- A turn of the first: the second's blocks are as they were. -/
theorem Oq.O2.turnG {P : Program} {σ τ : Type} {At : Ob.A σ} {Bt : Ob.A τ} {W w : World} {p q : Nat} {s s' : σ} {t : τ} {R : Oq.Rs} {f : FuncId} {args : Array Value} {v : Value} (O' : Ob.Is Bt) (c : ∀ F, At w p F s → Ob.Turns P At f args w p F s' v) (h : Oq.O2 At Bt W w p s q t R) :
    ∃ G, Bt w q G t ∧ Calls P f args w fun e w' => e = .returned v ∧ Oq.O2 At Bt W w' p s' q t R ∧ ∀ g, G g → w'.heap[g]? = w.heap[g]? := by
  obtain ⟨F, G, h1, h2, b1, b2, d, hw, hr⟩ := h
  refine ⟨G, h2, (c F h1).mono fun e w' ⟨he, F', hA, hs, hk⟩ => ?_⟩
  have hG : ∀ g, G g → w'.heap[g]? = w.heap[g]? := fun g hg => hk.block g (O'.lt h2 g hg) (fun hf => d g hf hg)
  refine ⟨he, ⟨F', G, hA, O'.on h2 hG, fun g hg => (hs g hg).elim (b1 g) (Nat.le_trans hw.size), b2, fun g hf hg => (hs g hf).elim (fun k => d g k hg) (fun k => by have := O'.lt h2 g hg; omega), hw.trans (hk.below b1 hw.size), fun x hx => ?_⟩, hG⟩
  obtain ⟨r1, r2, r3⟩ := hr x hx
  have hl := (Array.getElem?_eq_some_iff.1 r1).1
  exact ⟨(hk.block _ hl r2).trans r1, fun hf => (hs _ hf).elim r2 (fun k => by omega), r3⟩
theorem Rq.same {w w' : World} {r : Nat} {s : Vq.St} {a : Option Addr} {c : Nat} (h : Rq 0 w r s a c) (hk : ∀ g, g = r ∨ Sg.At_ a c g → w'.heap[g]? = w.heap[g]?) : Rq 0 w' r s a c := by
  have hr : w'.heap[r]? = w.heap[r]? := hk _ (Or.inl rfl)
  refine ⟨hr.trans h.row, ?_⟩
  by_cases h0 : 0 < c
  · obtain ⟨g, o, cur, e1, hB, hh⟩ := h.ol.ty h0
    subst e1
    have hg : w'.heap[g]? = w.heap[g]? := hk _ (Or.inr ⟨h0, rfl⟩)
    have hgl2 : g < w'.heap.size := (Array.getElem?_eq_some_iff.1 (hg.trans hh)).1
    refine ⟨⟨h.ol.sl.1, h.ol.sl.2.1, h.ol.sl.2.2.1, ?_⟩, fun _ => ⟨g, o, cur, rfl, hB, hg.trans hh⟩⟩
    rcases h.ol.sl.2.2.2 with hz | ⟨g', o', e2, hg', hc, hf⟩
    · exact Or.inl hz
    · injection e2 with e2
      injection e2 with e2 e3
      subst e2 e3
      exact Or.inr ⟨g, o, rfl, hgl2, fun k v hk => (Sg.cell_blk hg).trans (hc k v hk), fun j hj => ⟨by rw [Sg.cell_blk hg]; exact (hf j hj).1, by rw [Sg.frozen_blk hg]; exact (hf j hj).2⟩⟩
  · exact ⟨⟨h.ol.sl.1, h.ol.sl.2.1, h.ol.sl.2.2.1, Or.inl (by omega)⟩, fun k => absurd k h0⟩
/-- The document's events that wait, as the law reads them. -/
theorem RoAt.queue {V w : World} {p : Nat} {F : Nat → Prop} {s : Q18.St} (h : RoAt V w p F s) : ∃ r b c, s.q.l.length ≤ 4 ∧ ∀ w' : World, (∀ g, F g → w'.heap[g]? = w.heap[g]?) → w'.cell? ⟨p, 16, none⟩ = some (Ob.ptr r) ∧ w'.cell? ⟨r, 1, none⟩ = some (.slice b s.q.l.length c) ∧ ∀ d l, s.q.l = d :: l → ∃ g o, b = some ⟨g, o, none⟩ ∧ w'.cell? ⟨g, o, none⟩ = some (.int .i64 d.msg) ∧ w'.cell? ⟨g, o + 1, none⟩ = some (.string d.data) := by
  obtain ⟨m, a, n, g1, g2, g3, g4, r, H, hx⟩ := h
  obtain ⟨b, c, hF, hq, hO⟩ := hx.q
  refine ⟨r, b, c, Nat.le_trans hO.2.2 hO.2.1, fun w' hk => ?_⟩
  have hx' := hx.on hk
  have hq' := hq.same (w' := w') (fun g hg => hk g ((hx.f g).2 (by simp [(hF g).2 hg])))
  refine ⟨hx'.ro.row.c 16 _ rfl, hq'.row.c 1 _ rfl, fun d l hl => ?_⟩
  obtain ⟨g, o, hs, hc⟩ := LI.del (l := s.q.l) hq'.ol.sl.li (i := 0) (d := d) (by rw [hl]; rfl)
  obtain ⟨d0, d1⟩ := hc w' (Below.refl _ _)
  rw [Nat.zero_mul, Nat.add_zero] at d0 d1
  exact ⟨g, o, hs, d0, d1⟩
end Go.Proofs.Ytkgeknkppnadfaa
