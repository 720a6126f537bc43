/- A wire that fits and law 8's own world of the document's nodes, side by side. -/
import Derived.Test.YthkaekpoicodeaaGreatDoorUl
import Derived.Test.YthkaekpoicodeaaGreatDoorH2
import Derived.Test.YthkaekpoicodeaaGreatDoorHs
import Derived.Test.YthkaekpoicodeaaGreatDoorFo
import Derived.Test.YthkaekpoicodeaaGreatDoorUh
import Derived.Deep.RegionHeld3
namespace Go.Proofs.YthkaekpoicodeaaGreatDoor
open Go.RowKit
set_option linter.unusedVariables false
variable {At : Ob.A Mm.Wi}
/-- What a bit tells is a list of its own. -/
structure StepOwn (At : Ob.A Mm.Wi) : Prop where
  step : ∀ (w : World) (p : Nat) (F : Nat → Prop) (W : Mm.Wi) (fl : Bool), At w p F W → Tab w → W.bs.length ≤ 100000 →
    Calls Tryz.prog 11 #[bptr p, .bool fl] w fun e w' => ∃ s cap, e = .returned (.slice s (Mm.wtold W fl).length cap) ∧ EvIn w' s cap (Mm.wtold W fl) ∧ (∀ q, s = some q → w.heap.size ≤ q.block) ∧ ∃ F', At w' p F' (Mm.wnext W fl) ∧ (∀ g, F' g → F g ∨ w.heap.size ≤ g) ∧ Kept F w w'
/-- The wire in the state V, the world in the state N with its trace, apart from one another. -/
structure Pl (At : Ob.A Mm.Wi) (W w : World) (p r gm gh cm ch : Nat) (V : Mm.Wi) (N : List Rn) (tr : List Bool) : Prop where
  ex : ∃ P : Nat → Prop, OwnW At P w p V ∧ Ctx W P w ∧ ∀ g, fpr r gm gh N g → ¬ P g
  ri : RI w r gm gh cm ch N tr
  low : ∀ g, fpr r gm gh N g → W.heap.size ≤ g
theorem Pl.below {W w : World} {p r gm gh cm ch : Nat} {V : Mm.Wi} {N : List Rn} {tr : List Bool} (h : Pl At W w p r gm gh cm ch V N tr) : Below W.heap.size W w := by obtain ⟨P, _, hC, _⟩ := h.ex; exact hC.below
theorem Pl.tab {W w : World} {p r gm gh cm ch : Nat} {V : Mm.Wi} {N : List Rn} {tr : List Bool} (h : Pl At W w p r gm gh cm ch V N tr) : Tab w := by obtain ⟨P, _, hC, _⟩ := h.ex; exact hC.tab
theorem Pl.on (S : WireSpec At) {W w w' : World} {p r gm gh cm ch : Nat} {V : Mm.Wi} {N : List Rn} {tr : List Bool} (h : Pl At W w p r gm gh cm ch V N tr) (hb : Below w.heap.size w w') : Pl At W w' p r gm gh cm ch V N tr := by
  obtain ⟨P, hO, hC, hs⟩ := h.ex
  exact ⟨⟨P, hO.on S hb, hC.more hb, hs⟩, h.ri.below hb, h.low⟩
/-- The wire goes on, the world stays. -/
theorem Pl.wire {W w w' : World} {p r gm gh cm ch : Nat} {V V' : Mm.Wi} {N : List Rn} {tr : List Bool} {P F F' : Nat → Prop} (h : Pl At W w p r gm gh cm ch V N tr) (hC : Ctx W P w) (hF : ∀ g, F g → P g) (hs : ∀ g, fpr r gm gh N g → ¬ P g) (hA' : At w' p F' V') (hs' : ∀ g, F' g → F g ∨ w.heap.size ≤ g) (hk : Kept F w w') : Pl At W w' p r gm gh cm ch V' N tr :=
  ⟨⟨P, ⟨F', hA', fun g hg => (hs' g hg).elim (hF g) (hC.room g)⟩, hC.next (hk.mono hF), hs⟩, h.ri.on hk.size (fun g hg => hk.block g (by obtain ⟨a, ha⟩ := hg; exact h.ri.lt a g ha) (fun z => hs g hg (hF g z))), h.low⟩
/-- The world goes on, the wire stays. -/
theorem Pl.world (S : WireSpec At) {W w w' : World} {p r gm gh cm ch : Nat} {V : Mm.Wi} {N N' : List Rn} {tr tr' : List Bool} (h : Pl At W w p r gm gh cm ch V N tr) (hR : RI w' r gm gh cm ch N' tr') (hf : ∀ g, fpr r gm gh N' g → fpr r gm gh N g ∨ w.heap.size ≤ g) (hk : Kept (fpr r gm gh N) w w') : Pl At W w' p r gm gh cm ch V N' tr' := by
  obtain ⟨P, ⟨F, hA, hF⟩, hC, hs⟩ := h.ex
  have hlt := S.is.lt hA
  have hbW : Below W.heap.size W w' := hC.below.trans (hk.below h.low hC.below.size)
  refine ⟨⟨fun g => P g ∧ ¬ fpr r gm gh N' g, ⟨F, S.is.on hA (fun g hg => hk.block g (hlt g hg) (fun z => hs g z (hF g hg))), fun g hg => ⟨hF g hg, fun z => ?_⟩⟩, ⟨hbW, fun g hg => ⟨hC.room g (Nat.le_trans hk.size hg), fun z => ?_⟩, fun g hg => hC.low g hg.1, hC.tabW⟩, fun g hg z => z.2 hg⟩, hR, fun g hg => (hf g hg).elim (h.low g) (Nat.le_trans hC.below.size)⟩
  · rcases hf g z with z | z
    · exact hs g z (hF g hg)
    · have := hlt g hg; omega
  · obtain ⟨a, ha⟩ := z
    have := hR.lt a g ha
    omega
theorem EvIn.keptO {F : Nat → Prop} {w w' : World} {s : Option Addr} {cap : Nat} {l : List Mm.Ev} (h : EvIn w s cap l) (hk : Kept F w w') (hs : ∀ q, s = some q → ¬ F q.block) : EvIn w' s cap l := by
  refine ⟨h.1, h.2.1, ?_⟩
  rcases h.2.2 with h0 | ⟨g, o, rfl, hg, hc⟩
  · exact Or.inl h0
  · exact Or.inr ⟨g, o, rfl, Nat.lt_of_lt_of_le hg hk.size, fun k v hv => (cell_blkO (hk.block g hg (hs _ rfl))).trans (hc k v hv)⟩
end Go.Proofs.YthkaekpoicodeaaGreatDoor
/- Law 8's steps that came in; the wire's and the world's states alike. -/
namespace Go.Proofs.YthkaekpoicodeaaGreatDoor
open Go.ChangeShapes Go.WideShapes Go.ChangeAt Go.RowKit
set_option linter.unusedVariables false
/-- The steps' cells, as the walk meets them. -/
def StepRow8 (W : World) (s : Option Addr) (len : Nat) (wh bi fp : Nat → Int) (fr : Nat → Cm.Fr) : Prop := len = 0 ∨ ∃ b off, s = some ⟨b, off, none⟩ ∧ ∀ i, i < len →
  W.cell? ⟨b, off + i * 7, none⟩ = some (.int .i64 (wh i)) ∧ W.cell? ⟨b, off + i * 7 + 1, none⟩ = some (.int .i64 (bi i)) ∧ W.cell? ⟨b, off + i * 7 + 2, none⟩ = some (.int .i64 (fp i)) ∧ W.cell? ⟨b, off + i * 7 + 3, none⟩ = some (.bool (fr i).1) ∧ W.cell? ⟨b, off + i * 7 + 4, none⟩ = some (.int .u32 ((fr i).2.1 : Int)) ∧ W.cell? ⟨b, off + i * 7 + 5, none⟩ = some (.bool (fr i).2.2.1) ∧ W.cell? ⟨b, off + i * 7 + 6, none⟩ = some (.string ⟨(fr i).2.2.2.toArray⟩) ∧
  (Lit.int .i64 (wh i)).wf = true ∧ (Lit.int .i64 (bi i)).wf = true ∧ (Lit.int .i64 (fp i)).wf = true ∧ (fr i).2.1 < 4294967296
theorem stFlat8 : Fo.flat Tryz.prog 4 37 = some [(0, .int .i64), (1, .int .i64), (2, .int .i64), (3, .bool), (4, .int .u32), (5, .bool), (6, .str)] := by kernel_rfl
theorem steps8_of_trod {H : Type} {enc : TypeId × Value → H} {w : World} {s : Option Addr} {len cap : Nat} {d : DataW H} {p : List MemPlace} (h : DataW.Trod enc Tryz.prog w 0 (fun _ => true) true 22 (.slice s len cap) d p) : ∃ wh bi fp fr, StepRow8 w s len wh bi fp fr := by
  obtain ⟨_, h0 | ⟨b, off, rfl, hc⟩⟩ := Fo.flat_rows 4 (.int .i64) [(1, .int .i64), (2, .int .i64), (3, .bool), (4, .int .u32), (5, .bool), (6, .str)] 7 Tryz.underlying22 stFlat8 (by kernel_rfl) h
  · exact ⟨fun _ => 0, fun _ => 0, fun _ => 0, fun _ => Cm.noF, Or.inl h0⟩
  · have key : ∀ i, ∃ t : (Int × Int × Int) × Cm.Fr, i < len → w.cell? ⟨b, off + i * 7, none⟩ = some (.int .i64 t.1.1) ∧ w.cell? ⟨b, off + i * 7 + 1, none⟩ = some (.int .i64 t.1.2.1) ∧ w.cell? ⟨b, off + i * 7 + 2, none⟩ = some (.int .i64 t.1.2.2) ∧ w.cell? ⟨b, off + i * 7 + 3, none⟩ = some (.bool t.2.1) ∧ w.cell? ⟨b, off + i * 7 + 4, none⟩ = some (.int .u32 (t.2.2.1 : Int)) ∧ w.cell? ⟨b, off + i * 7 + 5, none⟩ = some (.bool t.2.2.2.1) ∧ w.cell? ⟨b, off + i * 7 + 6, none⟩ = some (.string ⟨t.2.2.2.2.toArray⟩) ∧
        (Lit.int .i64 t.1.1).wf = true ∧ (Lit.int .i64 t.1.2.1).wf = true ∧ (Lit.int .i64 t.1.2.2).wf = true ∧ t.2.2.1 < 4294967296 := fun i => by
      by_cases hi : i < len
      · have hq := hc i hi
        obtain ⟨v1, c1, n1, rfl, hw1⟩ := hq (0, .int .i64) (by simp)
        obtain ⟨v2, c2, n2, rfl, hw2⟩ := hq (1, .int .i64) (by simp)
        obtain ⟨v3, c3, n3, rfl, hw3⟩ := hq (2, .int .i64) (by simp)
        obtain ⟨v4, c4, n4, rfl⟩ := hq (3, .bool) (by simp)
        obtain ⟨v5, c5, n5, rfl, hw5⟩ := hq (4, .int .u32) (by simp)
        obtain ⟨v6, c6, n6, rfl⟩ := hq (5, .bool) (by simp)
        obtain ⟨v7, c7, n7, rfl, _⟩ := hq (6, .str) (by simp)
        obtain ⟨N5, rfl, hN5⟩ := u32_nat hw5
        refine ⟨((n1, n2, n3), (n4, N5, n6, n7.data.toList)), fun _ => ?_⟩
        simp only [← Nat.add_assoc] at c1 c2 c3 c4 c5 c6 c7
        exact ⟨c1, c2, c3, c4, c5, c6, c7, hw1, hw2, hw3, hN5⟩
      · exact ⟨((0, 0, 0), Cm.noF), fun k => absurd k hi⟩
    obtain ⟨F, hF⟩ := Classical.axiomOfChoice key
    exact ⟨fun i => (F i).1.1, fun i => (F i).1.2.1, fun i => (F i).1.2.2, fun i => (F i).2, Or.inr ⟨b, off, rfl, hF⟩⟩
/-- The two states are alike. -/
structure Alike (V : Mm.Wi) (N : List Rn) (tr : List Bool) : Prop where
  ms : N.map (·.m) = V.ms
  hs : N.map (·.h) = V.hs
  bs : tr = V.bs
  hd : ∀ x ∈ N, x.h.length ≤ 100
theorem Alike.bit {V : Mm.Wi} {N : List Rn} {tr : List Bool} (h : Alike V N tr) (fl : Bool) : (((N.map (·.m)).all Mm.drive) != fl) = Mm.wbit V.ms fl := by rw [h.ms]; rfl
theorem Alike.told {V : Mm.Wi} {N : List Rn} {tr : List Bool} (h : Alike V N tr) (fl : Bool) : Mm.wevs (N.map (·.m)) (Mm.wbit V.ms fl) = Mm.wtold V fl := by rw [h.ms]; rfl
theorem Alike.next {V : Mm.Wi} {N N' : List Rn} {tr : List Bool} (h : Alike V N tr) (fl : Bool) (hS : SofarR N N' N.length (Mm.wbit V.ms fl)) : Alike (Mm.wnext V fl) N' (tr ++ [Mm.wbit V.ms fl]) := by
  obtain ⟨q1, q2, q3⟩ := sofarR_end hS (Nat.le_refl _)
  refine ⟨by rw [q2, h.ms]; rfl, by rw [q3, h.ms, h.hs]; rfl, by rw [h.bs]; rfl, fun x hx => ?_⟩
  obtain ⟨i, hi⟩ := mem_idx hx
  have hl : i < N.length := by rw [← hS.1]; exact (List.getElem?_eq_some_iff.1 hi).1
  obtain ⟨x', h1, h2, h3⟩ := hS.2 i _ (List.getElem?_eq_getElem hl)
  rw [hi] at h1
  injection h1 with h1
  subst h1
  rw [if_pos hl] at h3
  rw [h3.2]
  exact Mm.lst_len _
theorem Alike.ask {V : Mm.Wi} {N : List Rn} {tr : List Bool} (h : Alike V N tr) {i : Nat} {x : Rn} (hx : N[i]? = some x) (f : Cm.Fr) (qr : Nat) : (Mm.wask V (i : Int) f).1 = (Mm.ask x.m f).1 ∧ Alike (Mm.wask V (i : Int) f).2 (N.set i ⟨x.q, qr, x.s, x.c, (Mm.ask x.m f).2, x.h⟩) tr := by
  have hl : i < N.length := (List.getElem?_eq_some_iff.1 hx).1
  have hlen : V.ms.length = N.length := by rw [← h.ms, List.length_map]
  have hg : V.ms.getD i Mm.fresh = x.m := by rw [← h.ms, List.getD_eq_getElem?_getD, List.getElem?_map, hx]; rfl
  unfold Mm.wask
  rw [if_pos ⟨by omega, by rw [hlen]; omega⟩, Int.toNat_natCast, hg]
  refine ⟨rfl, ⟨?_, ?_, h.bs, fun y hy => ?_⟩⟩
  · rw [List.map_set, h.ms]
  · rw [List.map_set, ← h.hs]
    exact set_same (by rw [List.getElem?_map, hx]; rfl)
  · obtain ⟨j, hj⟩ := mem_idx hy
    rw [get_setN hx] at hj
    split at hj
    · injection hj with hj; subst hj; exact h.hd x (List.mem_of_getElem? hx)
    · exact h.hd y (List.mem_of_getElem? hj)
theorem Alike.no {V : Mm.Wi} {N : List Rn} {tr : List Bool} (h : Alike V N tr) {who : Int} (hw : ¬ (0 ≤ who ∧ who < (N.length : Int))) (f : Cm.Fr) : Mm.wask V who f = (141, V) := by
  have hlen : V.ms.length = N.length := by rw [← h.ms, List.length_map]
  unfold Mm.wask
  rw [if_neg (by rw [hlen]; exact hw)]
theorem stepOwn : StepOwn WireAt where
  step := by
    rintro w p F W fl ⟨gn, N, rfl, h, h1, h2, h3⟩ hT hl
    refine (wstep_any w p gn W.qb N W.bs fl h hT hl _ rfl).mono fun e w' ⟨s, cap, N', he, hM⟩ => ?_
    have hev := hM.ev
    rw [evk_all] at hev
    obtain ⟨q1, q2, q3⟩ := sofar_end hM.so (Nat.le_refl _)
    unfold Mm.wtold Mm.wnext Mm.wbit
    rw [h1, h2]
    refine ⟨s, cap, he, hev.inn, fun q e => ?_, _, ⟨gn, N', rfl, hM.wi, q2.symm, q3.symm, by show W.qs = _; rw [h3, q1]⟩, hM.fp, hM.kept⟩
    have hp := hev.plain q e
    cases q with
    | mk b o sp =>
      dsimp only at hp
      subst hp
      exact (hev.zero b o e).2.1
end Go.Proofs.YthkaekpoicodeaaGreatDoor
/- A wire that fits, law 8's own world, and a step that was copied into a block: side by side. -/
namespace Go.Proofs.YthkaekpoicodeaaGreatDoor
open Go.RowKit
set_option linter.unusedVariables false
variable {At : Ob.A Mm.Wi}
/-- Both made, one behind the other. -/
theorem pl_start (S : WireSpec At) {W w2 w3 : World} {P : Nat → Prop} {p r gm gh cm ch : Nat} {V : Mm.Wi} {N : List Rn} {tr : List Bool} (hO : OwnW At P w2 p V) (hC : Ctx W P w2) (hb : Below w2.heap.size w2 w3) (hR : RI w3 r gm gh cm ch N tr) (hnew : ∀ g, fpr r gm gh N g → w2.heap.size ≤ g) : Pl At W w3 p r gm gh cm ch V N tr := by
  obtain ⟨F, hA, hF⟩ := hO
  have hlt := S.is.lt hA
  have hC3 := hC.more hb
  refine ⟨⟨fun g => P g ∧ ¬ fpr r gm gh N g, ⟨F, S.is.on hA (fun g hg => hb.block g (hlt g hg)), fun g hg => ⟨hF g hg, fun z => by have := hnew g z; have := hlt g hg; omega⟩⟩, ⟨hC3.below, fun g hg => ⟨hC3.room g hg, fun z => ?_⟩, fun g hg => hC.low g hg.1, hC.tabW⟩, fun g hg z => z.2 hg⟩, hR, fun g hg => Nat.le_trans hC.below.size (hnew g hg)⟩
  obtain ⟨a, ha⟩ := z
  have := hR.lt a g ha
  omega
theorem alike_new {w wx : World} {r K : Nat} {sm : Option Addr} {cm : Nat} {sh : Option Addr} {ch : Nat} {N : List Rn} (h : MkI w wx r K K sm cm sh ch N) (qs : List Nat) (qb : Nat) : Alike (Mm.wnew K qs qb) N [] := by
  have hrep : ∀ {α : Type} (f : Rn → α) (a : α), (∀ x ∈ N, f x = a) → N.map f = List.replicate K a := fun f a hf => by
    rw [List.eq_replicate_iff]
    refine ⟨by rw [List.length_map, h.len], fun b hb => ?_⟩
    obtain ⟨x, hx, rfl⟩ := List.mem_map.1 hb
    exact hf x hx
  exact ⟨hrep _ _ (fun x hx => (h.fr x hx).1), hrep _ _ (fun x hx => (h.fr x hx).2.1), rfl, fun x hx => by rw [(h.fr x hx).2.1]; exact Nat.zero_le _⟩
/-- The same, and a block that none of both writes. -/
structure PlS (At : Ob.A Mm.Wi) (W w : World) (p r gm gh cm ch : Nat) (V : Mm.Wi) (N : List Rn) (tr : List Bool) (gS : Nat) (O : Obj) : Prop where
  ex : ∃ P : Nat → Prop, OwnW At P w p V ∧ Ctx W P w ∧ (∀ g, fpr r gm gh N g → ¬ P g) ∧ ¬ P gS
  ri : RI w r gm gh cm ch N tr
  low : ∀ g, fpr r gm gh N g → W.heap.size ≤ g
  sb : w.heap[gS]? = some O
  nf : ¬ fpr r gm gh N gS
theorem PlS.lt {W w : World} {p r gm gh cm ch : Nat} {V : Mm.Wi} {N : List Rn} {tr : List Bool} {gS : Nat} {O : Obj} (h : PlS At W w p r gm gh cm ch V N tr gS O) : gS < w.heap.size := (Array.getElem?_eq_some_iff.1 h.sb).1
theorem PlS.pl {W w : World} {p r gm gh cm ch : Nat} {V : Mm.Wi} {N : List Rn} {tr : List Bool} {gS : Nat} {O : Obj} (h : PlS At W w p r gm gh cm ch V N tr gS O) : Pl At W w p r gm gh cm ch V N tr := by
  obtain ⟨P, hO, hC, hs, _⟩ := h.ex
  exact ⟨⟨P, hO, hC, hs⟩, h.ri, h.low⟩
theorem Pl.withB (S : WireSpec At) {W w : World} {p r gm gh cm ch : Nat} {V : Mm.Wi} {N : List Rn} {tr : List Bool} (h : Pl At W w p r gm gh cm ch V N tr) {cs : Array Value} {t : TypeId} : PlS At W (w.alloc (.cells cs t)) p r gm gh cm ch V N tr w.heap.size (.cells cs t (0, 0)) := by
  have hb : Below w.heap.size w (w.alloc (.cells cs t)) := (Below.refl _ _).alloc (Nat.le_refl _) _
  obtain ⟨P, hO, hC, hs⟩ := h.ex
  refine ⟨⟨_, (hO.avoid S w.heap.size (Nat.le_refl _)).on S hb, (hC.more hb).avoid w.heap.size (by simp), fun g hg z => hs g hg z.1, fun z => z.2 rfl⟩, h.ri.below hb, h.low, heap_alloc_new _ _, fun ⟨a, ha⟩ => ?_⟩
  have := h.ri.lt a _ ha
  omega
theorem PlS.on (S : WireSpec At) {W w w' : World} {p r gm gh cm ch : Nat} {V : Mm.Wi} {N : List Rn} {tr : List Bool} {gS : Nat} {O : Obj} (h : PlS At W w p r gm gh cm ch V N tr gS O) (hb : Below w.heap.size w w') : PlS At W w' p r gm gh cm ch V N tr gS O := by
  obtain ⟨P, hO, hC, hs, hS⟩ := h.ex
  exact ⟨⟨P, hO.on S hb, hC.more hb, hs, hS⟩, h.ri.below hb, h.low, (hb.block _ h.lt).trans h.sb, h.nf⟩
theorem PlS.wire {W w w' : World} {p r gm gh cm ch : Nat} {V V' : Mm.Wi} {N : List Rn} {tr : List Bool} {gS : Nat} {O : Obj} {P F F' : Nat → Prop} (h : PlS At W w p r gm gh cm ch V N tr gS O) (hC : Ctx W P w) (hF : ∀ g, F g → P g) (hs : ∀ g, fpr r gm gh N g → ¬ P g) (hS : ¬ P gS) (hA' : At w' p F' V') (hs' : ∀ g, F' g → F g ∨ w.heap.size ≤ g) (hk : Kept F w w') : PlS At W w' p r gm gh cm ch V' N tr gS O :=
  ⟨⟨P, ⟨F', hA', fun g hg => (hs' g hg).elim (hF g) (hC.room g)⟩, hC.next (hk.mono hF), hs, hS⟩, h.ri.on hk.size (fun g hg => hk.block g (by obtain ⟨a, ha⟩ := hg; exact h.ri.lt a g ha) (fun z => hs g hg (hF g z))), h.low, (hk.block _ h.lt (fun z => hS (hF _ z))).trans h.sb, h.nf⟩
theorem ps_ask (S : WireSpec At) {W w : World} {p r gm gh cm ch : Nat} {V V' : Mm.Wi} {N : List Rn} {tr : List Bool} {gS : Nat} {O : Obj} (who : Int) (f : Cm.Fr) {k : Nat} (hm : Mm.wask V who f = (k, V')) (hw : (Lit.int .i64 who).wf = true) (h1 : f.2.1 < 4294967296) (h2 : f.2.2.2.length ≤ 1000) (h : PlS At W w p r gm gh cm ch V N tr gS O) :
    Calls Tryz.prog 9 #[bptr p, .int .i64 who, frV f] w fun e w' => e = .returned (.int .i64 (k : Int)) ∧ PlS At W w' p r gm gh cm ch V' N tr gS O := by
  obtain ⟨P, ⟨F, hA, hF⟩, hC, hs, hS⟩ := h.ex
  have hc := S.ask w p F V who f hA hC.tab hw h1 h2
  rw [hm] at hc
  exact hc.mono fun e w' ⟨he, F', hA', hs', hk⟩ => ⟨he, h.wire hC hF hs hS hA' hs' hk⟩
theorem ps_step (S : StepOwn At) {W w : World} {p r gm gh cm ch : Nat} {V : Mm.Wi} {N : List Rn} {tr : List Bool} {gS : Nat} {O : Obj} (fl : Bool) (hl : V.bs.length ≤ 100000) (h : PlS At W w p r gm gh cm ch V N tr gS O) :
    Calls Tryz.prog 11 #[bptr p, .bool fl] w fun e w' => ∃ s cap, e = .returned (.slice s (Mm.wtold V fl).length cap) ∧ EvIn w' s cap (Mm.wtold V fl) ∧ (∀ q, s = some q → ¬ fpr r gm gh N q.block) ∧ PlS At W w' p r gm gh cm ch (Mm.wnext V fl) N tr gS O := by
  obtain ⟨P, ⟨F, hA, hF⟩, hC, hs, hS⟩ := h.ex
  refine (S.step w p F V fl hA hC.tab hl).mono fun e w' ⟨s, cap, he, hE, hn, F', hA', hs', hk⟩ => ⟨s, cap, he, hE, fun q eq hq => ?_, h.wire hC hF hs hS hA' hs' hk⟩
  obtain ⟨a, ha⟩ := hq
  have := h.ri.lt a _ ha
  have := hn q eq
  omega
theorem PlS.world (S : WireSpec At) {W w w' : World} {p r gm gh cm ch : Nat} {V : Mm.Wi} {N N' : List Rn} {tr tr' : List Bool} {gS : Nat} {O : Obj} (h : PlS At W w p r gm gh cm ch V N tr gS O) (hR : RI w' r gm gh cm ch N' tr') (hf : ∀ g, fpr r gm gh N' g → fpr r gm gh N g ∨ w.heap.size ≤ g) (hk : Kept (fpr r gm gh N) w w') : PlS At W w' p r gm gh cm ch V N' tr' gS O := by
  have hp := h.pl.world S hR hf hk
  obtain ⟨P, hO, hC, hs, hS⟩ := h.ex
  obtain ⟨F, hA, hF⟩ := hO
  have hlt := S.is.lt hA
  have nf : ¬ fpr r gm gh N' gS := fun z => by
    rcases hf gS z with z | z
    · exact h.nf z
    · have := h.lt; omega
  have hbW : Below W.heap.size W w' := hC.below.trans (hk.below h.low hC.below.size)
  refine ⟨⟨fun g => P g ∧ ¬ fpr r gm gh N' g, ⟨F, S.is.on hA (fun g hg => hk.block g (hlt g hg) (fun z => hs g z (hF g hg))), fun g hg => ⟨hF g hg, fun z => ?_⟩⟩, ⟨hbW, fun g hg => ⟨hC.room g (Nat.le_trans hk.size hg), fun z => ?_⟩, fun g hg => hC.low g hg.1, hC.tabW⟩, fun g hg z => z.2 hg, fun z => hS z.1⟩, hR, hp.low, (hk.block _ h.lt h.nf).trans h.sb, nf⟩
  · rcases hf g z with z | z
    · exact hs g z (hF g hg)
    · have := hlt g hg; omega
  · obtain ⟨a, ha⟩ := z
    have := hR.lt a g ha
    omega
theorem ps_rstep (S : WireSpec At) {W w : World} {p r gm gh cm ch : Nat} {V : Mm.Wi} {N : List Rn} {tr : List Bool} {gS : Nat} {O : Obj} (fl : Bool) (hl : tr.length ≤ 100000) (h100 : ∀ x ∈ N, x.h.length ≤ 100) (h : PlS At W w p r gm gh cm ch V N tr gS O) {b : Bool} (hb : b = (((N.map (·.m)).all Mm.drive) != fl)) :
    Calls Tryz.prog 12 #[bptr r, .bool fl] w fun e w' => ∃ s cap N', e = .returned (.slice s (Mm.wevs (N.map (·.m)) b).length cap) ∧ EvAt w.heap.size w' s cap (Mm.wevs (N.map (·.m)) b) ∧ SofarR N N' N.length b ∧ PlS At W w' p r gm gh cm ch V N' (tr ++ [b]) gS O ∧ Kept (fpr r gm gh N) w w' :=
  (rstep_any w r gm gh cm ch N tr fl h.ri hl h100 b hb).mono fun e w' ⟨s, cap, N', he, hS, hC⟩ => ⟨s, cap, N', he, hC.ev, hS, h.world S hC.ri hC.fp hC.kept, hC.kept⟩
theorem ps_rask (S : WireSpec At) {W w : World} {p r gm gh cm ch : Nat} {V : Mm.Wi} {N : List Rn} {tr : List Bool} {gS : Nat} {O : Obj} {i : Nat} {x : Rn} (hx : N[i]? = some x) (f : Cm.Fr) (h : PlS At W w p r gm gh cm ch V N tr gS O) :
    Calls Tryz.prog 8 #[bptr x.q, frV f] w fun e w' => e = .returned (.int .i64 ((Mm.ask x.m f).1 : Int)) ∧ ∃ qr, PlS At W w' p r gm gh cm ch V (N.set i ⟨x.q, qr, x.s, x.c, (Mm.ask x.m f).2, x.h⟩) tr gS O := by
  have hR := h.ri.mac x (List.mem_of_getElem? hx)
  refine (rat_ask w x.q _ x.m f ⟨x.qr, hR, rfl⟩).mono fun e w' ⟨he, F', hA', hs', hk⟩ => ⟨he, ?_⟩
  have hk' : Kept (fpr r gm gh N) w w' := hk.mono (fun g hg => by
    rcases hg with e | e
    · exact ⟨.mac i, by rw [bo_mac hx, e]⟩
    · exact ⟨.rd i, by rw [bo_rd hx, e]⟩)
  have hcur : Cur w w r gm gh cm ch N tr N none 0 [] := cur_start h.ri (Kept.refl _ _)
  obtain ⟨qr, hc⟩ := hcur.samp hx hA' hs' hk
  exact ⟨qr, h.world S hc.ri hc.fp hk'⟩
end Go.Proofs.YthkaekpoicodeaaGreatDoor
/- The wire and law 8's own world side by side: the trace; a copy that goes its own way; a region walked by hand. -/
namespace Go.Proofs.YthkaekpoicodeaaGreatDoor
open Go.RowKit
set_option linter.unusedVariables false
variable {At : Ob.A Mm.Wi}
/-- An operation that yields in every world that meets the condition. -/
theorem takeL {P : Program} {ops : Array Oper} {Q : Exit → Act → World → Prop} {md : Region.Mode} {S : World → Prop} {i d : Nat} {op : Op} {ty : TypeId} {pos : String} {after : Array Edge} {guard : Option (Nat × Bool)} {v : Value} {fuel : Nat} {listed : Array Bool} {a : Act} {w : World} (hi : ops[i]? = some ⟨some d, op, ty, pos, after, guard⟩)
    (hs : Region.noSelect ops = true) (hf : Region.free md ops listed i = true) (hr : (Region.ready md ops listed).contains i = true) (hQ : ∀ c a w, Q (.panic c) (a.put (some d) v) w → Q (.panic c) a w)
    (hw : Region.wanted ⟨some d, op, ty, pos, after, guard⟩ (yielded ops a.tmps) = true) (hy : ∀ w, S w → (execOp a.eval ⟨some d, op, ty, pos, after, guard⟩).run P w = .ok (.value v) w) (hS : S w)
    (h : wpAnyH P md ops Q S fuel (listed.setIfInBounds i true) (a.put (some d) v) w) : wpAnyH P md ops Q S (fuel + 1) listed a w :=
  wpAnyH_take hi hs hf hr hQ (Or.inl ⟨hw, hy⟩) hS h
/-- The one operation that may come up. -/
theorem consL {P : Program} {ops : Array Oper} {Q : Exit → Act → World → Prop} {md : Region.Mode} {S : World → Prop} {i d : Nat} {op : Op} {ty : TypeId} {pos : String} {after : Array Edge} {guard : Option (Nat × Bool)} {fuel : Nat} {listed : Array Bool} {a : Act} {w : World} (hi : ops[i]? = some ⟨some d, op, ty, pos, after, guard⟩) (hr : Region.ready md ops listed = [i])
    (h : ∀ K' : Act → World → Prop, Shut (∀ a w, S w → (S w → wpAnyH P md ops Q S fuel (listed.setIfInBounds i true) a w) → K' a w) → if Region.wanted ⟨some d, op, ty, pos, after, guard⟩ (yielded ops a.tmps) = true then Oper.wp P ⟨some d, op, ty, pos, after, guard⟩ a w K' Q else K' (a.put (some d) undef) w) : wpAnyH P md ops Q S (fuel + 1) listed a w :=
  wpAnyH_ready hr (by simp) (AllReadyH.cons hi h AllReadyH.nil)
/-- What the wire tells of its bits, and what the world has. -/
theorem Pl.trace (S : WireSpec At) {W w : World} {p r gm gh cm ch : Nat} {V : Mm.Wi} {N : List Rn} {tr : List Bool} (h : Pl At W w p r gm gh cm ch V N tr) (hA : Alike V N tr) (hl : V.bs.length ≤ 3000) :
    ∃ D : ByteArray, ∀ w', Below w.heap.size w w' → (Calls Tryz.prog 16 #[bptr p] w' fun e w'' => e = .returned (bptr V.qb) ∧ Below w'.heap.size w' w'') ∧ (Calls Tryz.prog 17 #[bptr V.qb] w' fun e w'' => e = .returned (.string D) ∧ Below w'.heap.size w' w'') ∧ w'.cell? ⟨r, 2, none⟩ = some (.string D) := by
  refine ⟨⟨(Bm.row V.bs).toArray⟩, fun w' hb => ?_⟩
  have h' := h.on S hb
  obtain ⟨P, hO, hC, _⟩ := h'.ex
  have ht := ow_trace S (Nat.le_trans hl (by decide)) hO
  rw [Nat.sub_eq_zero_of_le (Nat.le_trans hl (by decide)), List.drop_zero] at ht
  refine ⟨ow_bus S hO, ht, ?_⟩
  rw [cell_of_row _ _ _ _ _ _ h'.ri.head, ← hA.bs]
  rfl
/-- A copy: all its blocks are new. -/
theorem pl_copy (S : WireSpec At) {W w : World} {p r gm gh cm ch : Nat} {V : Mm.Wi} {N : List Rn} {tr : List Bool} (h : Pl At W w p r gm gh cm ch V N tr) (hl : V.bs.length ≤ 3000) :
    Calls Tryz.prog 18 #[bptr p] w fun e w' => ∃ q G V', e = .returned (bptr q) ∧ At w' q G V' ∧ V'.bs.length ≤ 100000 ∧ (∀ g, G g → w.heap.size ≤ g) ∧ Below w.heap.size w w' := by
  obtain ⟨P, ⟨F, hA, hF⟩, hC, _⟩ := h.ex
  exact (S.copy w p F V hA hC.tab (Nat.le_trans hl (by decide))).mono fun e w' ⟨q, G, qs, qb, he, hA', hG, hb⟩ => ⟨q, G, _, he, hA', Nat.le_trans hl (by decide), hG, hb⟩
/-- It goes its own way. -/
theorem pl_cstep (S : WireSpec At) {W w w' : World} {p r gm gh cm ch q : Nat} {V V' : Mm.Wi} {N : List Rn} {tr : List Bool} {G : Nat → Prop} (fl : Bool) (h : Pl At W w p r gm gh cm ch V N tr) (hb : Below w.heap.size w w') (hA : At w' q G V') (hl : V'.bs.length ≤ 100000) (hG : ∀ g, G g → w.heap.size ≤ g) :
    Calls Tryz.prog 11 #[bptr q, .bool fl] w' fun e w'' => (∃ s n cap, e = .returned (.slice s n cap)) ∧ Pl At W w'' p r gm gh cm ch V N tr :=
  (S.step w' q G V' fl hA (h.on S hb).tab hl).mono fun e w'' ⟨s, cap, he, hE, F', hA', hs', hk⟩ => ⟨⟨s, _, cap, he⟩, h.on S (hb.trans (hk.below hG hb.size))⟩
end Go.Proofs.YthkaekpoicodeaaGreatDoor
