/- Law 12's own 'known', over whatever fits MatSpec. -/
import Derived.Test.YthknkolnalobjaaDoorB0
import Derived.Deep.RegionHeld3
namespace Go.Proofs.YthknkolnalobjaaDoor
open Go.RowKit Go.WideShapes
set_option linter.unusedVariables false
/-- An operation that yields in every world that meets the condition. -/
theorem takeL {P : Program} {ops : Array Oper} {Q : Exit → Act → World → Prop} {md : Region.Mode} {S : World → Prop} {i d : Nat} {op : Op} {ty : TypeId} {pos : String} {after : Array Edge} {guard : Option (Nat × Bool)} {v : Value} {fuel : Nat} {listed : Array Bool} {a : Act} {w : World} (hi : ops[i]? = some ⟨some d, op, ty, pos, after, guard⟩)
    (hs : Region.noSelect ops = true) (hf : Region.free md ops listed i = true) (hr : (Region.ready md ops listed).contains i = true) (hQ : ∀ c a w, Q (.panic c) (a.put (some d) v) w → Q (.panic c) a w)
    (hw : Region.wanted ⟨some d, op, ty, pos, after, guard⟩ (yielded ops a.tmps) = true) (hy : ∀ w, S w → (execOp a.eval ⟨some d, op, ty, pos, after, guard⟩).run P w = .ok (.value v) w) (hS : S w)
    (h : wpAnyH P md ops Q S fuel (listed.setIfInBounds i true) (a.put (some d) v) w) : wpAnyH P md ops Q S (fuel + 1) listed a w :=
  wpAnyH_take hi hs hf hr hQ (Or.inl ⟨hw, hy⟩) hS h
/-- The one operation that may come up. -/
theorem consL {P : Program} {ops : Array Oper} {Q : Exit → Act → World → Prop} {md : Region.Mode} {S : World → Prop} {i d : Nat} {op : Op} {ty : TypeId} {pos : String} {after : Array Edge} {guard : Option (Nat × Bool)} {fuel : Nat} {listed : Array Bool} {a : Act} {w : World} (hi : ops[i]? = some ⟨some d, op, ty, pos, after, guard⟩) (hr : Region.ready md ops listed = [i])
    (h : ∀ K' : Act → World → Prop, Shut (∀ a w, S w → (S w → wpAnyH P md ops Q S fuel (listed.setIfInBounds i true) a w) → K' a w) → if Region.wanted ⟨some d, op, ty, pos, after, guard⟩ (yielded ops a.tmps) = true then Oper.wp P ⟨some d, op, ty, pos, after, guard⟩ a w K' Q else K' (a.put (some d) undef) w) : wpAnyH P md ops Q S (fuel + 1) listed a w :=
  wpAnyH_ready hr (by simp) (AllReadyH.cons hi h AllReadyH.nil)
def Mx.zero : Mx.M := ⟨0, 0, 0, 0, 0, 0, 0, 0, [], [], []⟩
def Mx.least1 : Mx.M := ⟨1, 2, 1, 200, 1, 16, 0, 0, [1], [⟨9, 1, false⟩], []⟩
def fa : Array Value := #[.bool false, .int .u32 9, .bool false, .string ⟨#[97]⟩]
/-- What 'known' has made, ahead of what it tells. -/
structure K12 (W w : World) (p1 p2 p6 : Nat) (a1 a4 : Ma) (g1 o1 : Nat) : Prop where
  below : Below W.heap.size W w
  m1 : RowT 27 w p1 (mCs Mx.least a1)
  m6 : RowT 27 w p6 (mCs Mx.least a4)
  f2 : RowT 29 w p2 fa
  i1 : MIn w Mx.least a1
  i4 : MIn w Mx.least1 a4
  s1 : a1.s1 = some ⟨g1, o1, none⟩
  c1 : w.cell? ⟨g1, o1, none⟩ = some (.int .i64 0)
  lt : g1 < w.heap.size
theorem K12.on {W w w' : World} {p1 p2 p6 : Nat} {a1 a4 : Ma} {g1 o1 : Nat} (h : K12 W w p1 p2 p6 a1 a4 g1 o1) (hb : Below w.heap.size w w') : K12 W w' p1 p2 p6 a1 a4 g1 o1 :=
  ⟨h.below.trans (hb.mono h.below.size), h.m1.on hb, h.m6.on hb, h.f2.on hb, h.i1.on hb, h.i4.on hb, h.s1, (hb.cell (p := ⟨g1, o1, none⟩) h.lt).trans h.c1, Nat.lt_of_lt_of_le h.lt hb.size⟩
/-- The cells that are read. -/
def C12 (w : World) (p1 p2 p6 : Nat) (a1 a4 : Ma) (g1 o1 : Nat) : Prop :=
  (w.cell? ⟨p1, 0, none⟩ = some (.int .i64 1) ∧ w.cell? ⟨p1, 1, none⟩ = some (.int .i64 2) ∧ w.cell? ⟨p1, 2, none⟩ = some (.int .i64 1) ∧ w.cell? ⟨p1, 3, none⟩ = some (.int .i64 200) ∧ w.cell? ⟨p1, 4, none⟩ = some (.int .i64 1) ∧ w.cell? ⟨p1, 5, none⟩ = some (.int .i64 16) ∧ w.cell? ⟨p1, 6, none⟩ = some (.int .i64 0) ∧ w.cell? ⟨p1, 7, none⟩ = some (.int .u32 0) ∧ w.cell? ⟨p1, 8, none⟩ = some (.slice (some ⟨g1, o1, none⟩) 1 a1.c1) ∧ w.cell? ⟨p1, 9, none⟩ = some (.slice a1.s2 1 a1.c2) ∧ w.cell? ⟨p1, 10, none⟩ = some (.slice a1.s3 0 a1.c3)) ∧
  (w.cell? ⟨p6, 0, none⟩ = some (.int .i64 1) ∧ w.cell? ⟨p6, 1, none⟩ = some (.int .i64 2) ∧ w.cell? ⟨p6, 2, none⟩ = some (.int .i64 1) ∧ w.cell? ⟨p6, 3, none⟩ = some (.int .i64 200) ∧ w.cell? ⟨p6, 4, none⟩ = some (.int .i64 1) ∧ w.cell? ⟨p6, 5, none⟩ = some (.int .i64 16) ∧ w.cell? ⟨p6, 6, none⟩ = some (.int .i64 0) ∧ w.cell? ⟨p6, 7, none⟩ = some (.int .u32 0) ∧ w.cell? ⟨p6, 8, none⟩ = some (.slice a4.s1 1 a4.c1) ∧ w.cell? ⟨p6, 9, none⟩ = some (.slice a4.s2 1 a4.c2) ∧ w.cell? ⟨p6, 10, none⟩ = some (.slice a4.s3 0 a4.c3)) ∧
  (w.cell? ⟨p2, 0, none⟩ = some (.bool false) ∧ w.cell? ⟨p2, 1, none⟩ = some (.int .u32 9) ∧ w.cell? ⟨p2, 2, none⟩ = some (.bool false) ∧ w.cell? ⟨p2, 3, none⟩ = some (.string ⟨#[97]⟩)) ∧ w.cell? ⟨g1, o1, none⟩ = some (.int .i64 0)
theorem K12.cells {W w : World} {p1 p2 p6 : Nat} {a1 a4 : Ma} {g1 o1 : Nat} (h : K12 W w p1 p2 p6 a1 a4 g1 o1) : C12 w p1 p2 p6 a1 a4 g1 o1 := by
  have h1 := h.m1.mat
  rw [h.s1] at h1
  exact ⟨h1, h.m6.mat, ⟨h.f2.c 0 _ rfl, h.f2.c 1 _ rfl, h.f2.c 2 _ rfl, h.f2.c 3 _ rfl⟩, h.c1⟩
theorem small_least : Mx.Small Mx.least := ⟨by decide, by decide, by decide⟩
theorem small_least1 : Mx.Small Mx.least1 := ⟨by decide, by decide, by decide⟩
theorem small_zero : Mx.Small Mx.zero := ⟨by decide, by decide, by decide⟩
theorem wf_least : Mx.Wf Mx.least := ⟨rfl, rfl, rfl, rfl, rfl, rfl, rfl, by decide, (fun x hx => by simp [Mx.least] at hx; subst hx; rfl), (fun x hx => by simp [Mx.least] at hx; subst hx; exact ⟨by decide, rfl⟩), (fun x hx => by simp [Mx.least] at hx)⟩
theorem wf_least1 : Mx.Wf Mx.least1 := ⟨rfl, rfl, rfl, rfl, rfl, rfl, rfl, by decide, (fun x hx => by simp [Mx.least1] at hx; subst hx; rfl), (fun x hx => by simp [Mx.least1] at hx; subst hx; exact ⟨by decide, rfl⟩), (fun x hx => by simp [Mx.least1] at hx)⟩
theorem wf_zero : Mx.Wf Mx.zero := ⟨rfl, rfl, rfl, rfl, rfl, rfl, rfl, by decide, (fun x hx => by cases hx), (fun x hx => by cases hx), (fun x hx => by cases hx)⟩
/-- The copy with another first master. -/
theorem min_least1 {w : World} {a : Ma} {B g o : Nat} (h : MIn w Mx.least a) (hF : Fresh B w Mx.least a) (hs : a.s1 = some ⟨g, o, none⟩) : MIn (w.setCell ⟨g, o, none⟩ (.int .i64 1)) Mx.least1 a := by
  obtain ⟨g1, o1', cur, e1, hB1, hh1⟩ := hF.n1 (by decide)
  rw [hs] at e1
  injection e1 with e1
  injection e1 with eg eo
  subst eg eo
  obtain ⟨g2, o2, cur2, e2, hB2, hh2⟩ := hF.n2 (by decide)
  have hne : g2 ≠ g := fun e => by
    subst e
    rw [hh1] at hh2
    injection hh2 with hh2
    injection hh2 with _ ht
    exact absurd ht (by decide)
  have hsz : (w.setCell ⟨g, o, none⟩ (.int .i64 1)).heap.size = w.heap.size := by simp [World.setCell]
  refine ⟨⟨h.l1.1, h.l1.2.1, Or.inr ⟨g, o, hs, ?_, fun k v hk => ?_⟩⟩, ⟨h.l2.1, h.l2.2.1, ?_⟩, ⟨h.l3.1, h.l3.2.1, Or.inl rfl⟩⟩
  · rw [hsz]; exact (Array.getElem?_eq_some_iff.1 hh1).1
  · cases k with
    | zero =>
      have hv : v = .int .i64 1 := by simpa [Mx.least1, mC1] using hk.symm
      subst hv
      obtain ⟨g', o', e', _, hc⟩ := h.master (i := 0) (x := 0) rfl
      rw [hs] at e'
      injection e' with e'
      injection e' with eg eo
      subst eg eo
      rw [Nat.add_zero] at hc ⊢
      rw [cell_of_row _ _ _ _ _ _ hh1] at hc
      rw [cell_of_row _ _ _ _ _ _ (heap_setCell_same _ _ _ _ _ _ hh1)]
      simp [(Array.getElem?_eq_some_iff.1 hc).1]
    | succ k => simp [Mx.least1, mC1] at hk
  · rcases h.l2.2.2 with h0 | ⟨g', o', e', hg', hc⟩
    · exact Or.inl h0
    · rw [e2] at e'
      injection e' with e'
      injection e' with eg eo
      subst eg eo
      refine Or.inr ⟨g2, o2, e2, by rw [hsz]; exact hg', fun k v hk => ?_⟩
      have := hc k v hk
      rw [cell_of_row _ _ _ _ _ _ hh2] at this
      rw [cell_of_row _ _ _ _ _ _ (((Kept.set (F := fun j => j = g) w ⟨g, o, none⟩ (.int .i64 1) rfl).block g2 (Array.getElem?_eq_some_iff.1 hh2).1 hne).trans hh2)]
      exact this
set_option maxRecDepth 100000 in
set_option maxHeartbeats 8000000 in
theorem known12_any {Q : World → Prop} (hQ : ∀ w w', Q w → Below w.heap.size w w' → Q w') (S : MatSpec Q) (W : World) (hW : Q W) : Calls Tryd.prog 8 #[] W fun e w' => e = .returned (.bool true) ∧ Below W.heap.size W w' := by
  have HQ : Hid (∀ w, Below W.heap.size W w → Q w) := fun w hb => hQ W w hW hb
  clear hQ hW
  go_enter Tryd.func8, Tryd.ntmps8
  go_wp2_with fail
  refine (least_any _).mono ?_
  rintro e w1 ⟨a1, rfl, hm1, hF1, hb1⟩
  obtain ⟨g1, o1, cur1, hs1, hB1, hh1⟩ := hF1.n1 (by decide)
  obtain ⟨sa, ca, sb, cb, sc, cc⟩ := a1
  dsimp only at hs1
  subst hs1
  have hc1 : w1.cell? ⟨g1, o1, none⟩ = some (.int .i64 0) := by
    obtain ⟨g', o', e', _, hc⟩ := hm1.master (i := 0) (x := 0) rfl
    injection e' with e'
    injection e' with eg eo
    subst eg eo
    rwa [Nat.add_zero] at hc
  have e1 : mV Mx.least ⟨some ⟨g1, o1, none⟩, ca, sb, cb, sc, cc⟩ = .agg #[.int .i64 1, .int .i64 2, .int .i64 1, .int .i64 200, .int .i64 1, .int .i64 16, .int .i64 0, .int .u32 0, .slice (some ⟨g1, o1, none⟩) 1 ca, .slice sb 1 cb, .slice sc 0 cc] := rfl
  have HA : Hid (Below W.heap.size W (w1.alloc (.cells #[.int .i64 1, .int .i64 2, .int .i64 1, .int .i64 200, .int .i64 1, .int .i64 16, .int .i64 0, .int .u32 0, .slice (some ⟨g1, o1, none⟩) 1 ca, .slice sb 1 cb, .slice sc 0 cc] 27))) := hb1.alloc hb1.size _
  have HX : Hid (MIn (w1.alloc (.cells #[.int .i64 1, .int .i64 2, .int .i64 1, .int .i64 200, .int .i64 1, .int .i64 16, .int .i64 0, .int .u32 0, .slice (some ⟨g1, o1, none⟩) 1 ca, .slice sb 1 cb, .slice sc 0 cc] 27)) Mx.least ⟨some ⟨g1, o1, none⟩, ca, sb, cb, sc, cc⟩ ∧ RowT 27 (w1.alloc (.cells #[.int .i64 1, .int .i64 2, .int .i64 1, .int .i64 200, .int .i64 1, .int .i64 16, .int .i64 0, .int .u32 0, .slice (some ⟨g1, o1, none⟩) 1 ca, .slice sb 1 cb, .slice sc 0 cc] 27)) w1.heap.size (mCs Mx.least ⟨some ⟨g1, o1, none⟩, ca, sb, cb, sc, cc⟩)) := ⟨hm1.on ((Below.refl _ _).alloc (Nat.le_refl _) _), RowT.new _ _ _⟩
  have HC : Hid ((w1.alloc (.cells #[.int .i64 1, .int .i64 2, .int .i64 1, .int .i64 200, .int .i64 1, .int .i64 16, .int .i64 0, .int .u32 0, .slice (some ⟨g1, o1, none⟩) 1 ca, .slice sb 1 cb, .slice sc 0 cc] 27)).cell? ⟨g1, o1, none⟩ = some (.int .i64 0)) := (((Below.refl _ _).alloc (Nat.le_refl _) _).cell (p := ⟨g1, o1, none⟩) (block_lt_of_cell hc1)).trans hc1
  rw [e1]
  clear hm1 hF1 hb1 e1 hc1 hh1 hB1
  go_wp2_with fail
  generalize w1.alloc (.cells #[.int .i64 1, .int .i64 2, .int .i64 1, .int .i64 200, .int .i64 1, .int .i64 16, .int .i64 0, .int .u32 0, .slice (some ⟨g1, o1, none⟩) 1 ca, .slice sb 1 cb, .slice sc 0 cc] 27) = wA at HA HX HC ⊢
  generalize w1.heap.size = p1 at HX ⊢
  refine (S.frame wA Mx.least ⟨some ⟨g1, o1, none⟩, ca, sb, cb, sc, cc⟩ 0 ⟨#[97]⟩ (HQ.out _ HA.out) HX.out.1 small_least wf_least rfl (by decide)).mono ?_
  rintro e w2 ⟨rfl, hb2⟩
  have hv : fVal (Mx.fid Mx.least 0 (ByteArray.size ⟨#[97]⟩)) ⟨#[97]⟩ = .tuple #[.agg #[.bool false, .int .u32 9, .bool false, .string ⟨#[97]⟩], .bool true] := rfl
  rw [hv]
  have HB2 : Hid (Below wA.heap.size wA (w2.alloc (.cells #[.bool false, .int .u32 9, .bool false, .string ⟨#[97]⟩] 29))) := hb2.alloc hb2.size _
  have HF2 : Hid (RowT 29 (w2.alloc (.cells #[.bool false, .int .u32 9, .bool false, .string ⟨#[97]⟩] 29)) w2.heap.size fa) := RowT.new _ _ _
  clear hb2 hv
  have HX2 : Hid (MIn (w2.alloc (.cells #[.bool false, .int .u32 9, .bool false, .string ⟨#[97]⟩] 29)) Mx.least ⟨some ⟨g1, o1, none⟩, ca, sb, cb, sc, cc⟩ ∧ RowT 27 (w2.alloc (.cells #[.bool false, .int .u32 9, .bool false, .string ⟨#[97]⟩] 29)) p1 (mCs Mx.least ⟨some ⟨g1, o1, none⟩, ca, sb, cb, sc, cc⟩)) := ⟨HX.out.1.on HB2.out, HX.out.2.on HB2.out⟩
  have HA2 : Hid (Below W.heap.size W (w2.alloc (.cells #[.bool false, .int .u32 9, .bool false, .string ⟨#[97]⟩] 29))) := HA.out.trans (HB2.out.mono HA.out.size)
  have HC2 : Hid ((w2.alloc (.cells #[.bool false, .int .u32 9, .bool false, .string ⟨#[97]⟩] 29)).cell? ⟨g1, o1, none⟩ = some (.int .i64 0)) := (HB2.out.cell (p := ⟨g1, o1, none⟩) (block_lt_of_cell HC.out)).trans HC.out
  clear HA HX HC HB2
  have HY : Hid (∀ w, RowT 27 w p1 (mCs Mx.least ⟨some ⟨g1, o1, none⟩, ca, sb, cb, sc, cc⟩) → (w.cell? ⟨p1, 0, none⟩ = some (.int .i64 1) ∧ w.cell? ⟨p1, 1, none⟩ = some (.int .i64 2) ∧ w.cell? ⟨p1, 2, none⟩ = some (.int .i64 1) ∧ w.cell? ⟨p1, 3, none⟩ = some (.int .i64 200) ∧ w.cell? ⟨p1, 4, none⟩ = some (.int .i64 1) ∧ w.cell? ⟨p1, 5, none⟩ = some (.int .i64 16) ∧ w.cell? ⟨p1, 6, none⟩ = some (.int .i64 0) ∧ w.cell? ⟨p1, 7, none⟩ = some (.int .u32 0) ∧ w.cell? ⟨p1, 8, none⟩ = some (.slice (some ⟨g1, o1, none⟩) 1 ca) ∧ w.cell? ⟨p1, 9, none⟩ = some (.slice sb 1 cb) ∧ w.cell? ⟨p1, 10, none⟩ = some (.slice sc 0 cc))) := fun w h => h.mat
  obtain ⟨y0, y1, y2, y3, y4, y5, y6, y7, y8, y9, y10⟩ := HY.out _ HX2.out.2
  go_wp2_with fail
  generalize w2.alloc (.cells #[.bool false, .int .u32 9, .bool false, .string ⟨#[97]⟩] 29) = wB at HA2 HX2 HC2 HF2 y0 y1 y2 y3 y4 y5 y6 y7 y8 y9 y10 ⊢
  generalize w2.heap.size = p2 at HF2 ⊢
  refine (S.frame wB Mx.least ⟨some ⟨g1, o1, none⟩, ca, sb, cb, sc, cc⟩ 1 ⟨#[]⟩ (HQ.out _ HA2.out) HX2.out.1 small_least wf_least rfl (by decide)).mono ?_
  rintro e w3 ⟨rfl, hb3⟩
  have hv : fVal (Mx.fid Mx.least 1 (ByteArray.size ⟨#[]⟩)) ⟨#[]⟩ = .tuple #[.agg #[.bool false, .int .u32 0, .bool false, .string ByteArray.empty], .bool false] := rfl
  rw [hv]
  have HB3 : Hid (Below wB.heap.size wB (w3.alloc (.cells #[.bool false, .int .u32 0, .bool false, .string ByteArray.empty] 29))) := hb3.alloc hb3.size _
  clear hb3 hv y0 y1 y2 y3 y4 y5 y6 y7 y8 y9 y10
  have HX3 : Hid (MIn (w3.alloc (.cells #[.bool false, .int .u32 0, .bool false, .string ByteArray.empty] 29)) Mx.least ⟨some ⟨g1, o1, none⟩, ca, sb, cb, sc, cc⟩ ∧ RowT 27 (w3.alloc (.cells #[.bool false, .int .u32 0, .bool false, .string ByteArray.empty] 29)) p1 (mCs Mx.least ⟨some ⟨g1, o1, none⟩, ca, sb, cb, sc, cc⟩)) := ⟨HX2.out.1.on HB3.out, HX2.out.2.on HB3.out⟩
  have HF3 : Hid (RowT 29 (w3.alloc (.cells #[.bool false, .int .u32 0, .bool false, .string ByteArray.empty] 29)) p2 fa) := HF2.out.on HB3.out
  have HA3 : Hid (Below W.heap.size W (w3.alloc (.cells #[.bool false, .int .u32 0, .bool false, .string ByteArray.empty] 29))) := HA2.out.trans (HB3.out.mono HA2.out.size)
  have HC3 : Hid ((w3.alloc (.cells #[.bool false, .int .u32 0, .bool false, .string ByteArray.empty] 29)).cell? ⟨g1, o1, none⟩ = some (.int .i64 0)) := (HB3.out.cell (p := ⟨g1, o1, none⟩) (block_lt_of_cell HC2.out)).trans HC2.out
  clear HA2 HX2 HC2 HB3 HF2
  obtain ⟨y0, y1, y2, y3, y4, y5, y6, y7, y8, y9, y10⟩ := HY.out _ HX3.out.2
  go_wp2_with fail
  generalize w3.alloc (.cells #[.bool false, .int .u32 0, .bool false, .string ByteArray.empty] 29) = wC at HA3 HX3 HC3 HF3 y0 y1 y2 y3 y4 y5 y6 y7 y8 y9 y10 ⊢
  generalize w3.heap.size = p4
  refine (S.copy wC Mx.least ⟨some ⟨g1, o1, none⟩, ca, sb, cb, sc, cc⟩ (HQ.out _ HA3.out) HX3.out.1 small_least wf_least).mono ?_
  rintro e w4 ⟨a4, rfl, hm4, hF4, hb4⟩
  clear y0 y1 y2 y3 y4 y5 y6 y7 y8 y9 y10
  obtain ⟨g4, o4, cur4, hs4, hB4, hh4⟩ := hF4.n1 (by decide)
  obtain ⟨ta, da, tb, db, tc, dc⟩ := a4
  dsimp only at hs4
  subst hs4
  have hc4 : w4.cell? ⟨g4, o4, none⟩ = some (.int .i64 0) := by
    obtain ⟨g', o', e', _, hc⟩ := hm4.master (i := 0) (x := 0) rfl
    injection e' with e'
    injection e' with eg eo
    subst eg eo
    rwa [Nat.add_zero] at hc
  have e4 : mV Mx.least ⟨some ⟨g4, o4, none⟩, da, tb, db, tc, dc⟩ = .agg #[.int .i64 1, .int .i64 2, .int .i64 1, .int .i64 200, .int .i64 1, .int .i64 16, .int .i64 0, .int .u32 0, .slice (some ⟨g4, o4, none⟩) 1 da, .slice tb 1 db, .slice tc 0 dc] := rfl
  rw [e4]
  have hb5 : Below w4.heap.size w4 (w4.alloc (.cells #[.int .i64 1, .int .i64 2, .int .i64 1, .int .i64 200, .int .i64 1, .int .i64 16, .int .i64 0, .int .u32 0, .slice (some ⟨g4, o4, none⟩) 1 da, .slice tb 1 db, .slice tc 0 dc] 27)) := (Below.refl _ _).alloc (Nat.le_refl _) _
  have HR6 : Hid (RowT 27 (w4.alloc (.cells #[.int .i64 1, .int .i64 2, .int .i64 1, .int .i64 200, .int .i64 1, .int .i64 16, .int .i64 0, .int .u32 0, .slice (some ⟨g4, o4, none⟩) 1 da, .slice tb 1 db, .slice tc 0 dc] 27)) w4.heap.size (mCs Mx.least ⟨some ⟨g4, o4, none⟩, da, tb, db, tc, dc⟩)) := RowT.new _ _ _
  have x4 : (w4.alloc (.cells #[.int .i64 1, .int .i64 2, .int .i64 1, .int .i64 200, .int .i64 1, .int .i64 16, .int .i64 0, .int .u32 0, .slice (some ⟨g4, o4, none⟩) 1 da, .slice tb 1 db, .slice tc 0 dc] 27)).cell? ⟨g4, o4, none⟩ = some (.int .i64 0) := (hb5.cell (p := ⟨g4, o4, none⟩) (block_lt_of_cell hc4)).trans hc4
  have hh5 : (w4.alloc (.cells #[.int .i64 1, .int .i64 2, .int .i64 1, .int .i64 200, .int .i64 1, .int .i64 16, .int .i64 0, .int .u32 0, .slice (some ⟨g4, o4, none⟩) 1 da, .slice tb 1 db, .slice tc 0 dc] 27)).heap[g4]? = some (.cells cur4 3 (0, 0)) := (hb5.block g4 (Array.getElem?_eq_some_iff.1 hh4).1).trans hh4
  have f4 : (w4.alloc (.cells #[.int .i64 1, .int .i64 2, .int .i64 1, .int .i64 200, .int .i64 1, .int .i64 16, .int .i64 0, .int .u32 0, .slice (some ⟨g4, o4, none⟩) 1 da, .slice tb 1 db, .slice tc 0 dc] 27)).frozen? ⟨g4, o4, none⟩ = false := frozen_of_row _ _ _ _ _ hh5
  have HM : Hid (MIn ((w4.alloc (.cells #[.int .i64 1, .int .i64 2, .int .i64 1, .int .i64 200, .int .i64 1, .int .i64 16, .int .i64 0, .int .u32 0, .slice (some ⟨g4, o4, none⟩) 1 da, .slice tb 1 db, .slice tc 0 dc] 27)).setCell ⟨g4, o4, none⟩ (.int .i64 1)) Mx.least1 ⟨some ⟨g4, o4, none⟩, da, tb, db, tc, dc⟩) := min_least1 (B := wC.heap.size) (hm4.on hb5) (hF4.on hb5) rfl
  have HBC : Hid (Below wC.heap.size wC ((w4.alloc (.cells #[.int .i64 1, .int .i64 2, .int .i64 1, .int .i64 200, .int .i64 1, .int .i64 16, .int .i64 0, .int .u32 0, .slice (some ⟨g4, o4, none⟩) 1 da, .slice tb 1 db, .slice tc 0 dc] 27)).setCell ⟨g4, o4, none⟩ (.int .i64 1))) := Below.setCell (hb4.alloc hb4.size _) (p := ⟨g4, o4, none⟩) hB4 _
  have hne : g4 ≠ w4.heap.size := by have := (Array.getElem?_eq_some_iff.1 hh4).1; omega
  have HK : Hid (K12 W ((w4.alloc (.cells #[.int .i64 1, .int .i64 2, .int .i64 1, .int .i64 200, .int .i64 1, .int .i64 16, .int .i64 0, .int .u32 0, .slice (some ⟨g4, o4, none⟩) 1 da, .slice tb 1 db, .slice tc 0 dc] 27)).setCell ⟨g4, o4, none⟩ (.int .i64 1)) p1 p2 w4.heap.size ⟨some ⟨g1, o1, none⟩, ca, sb, cb, sc, cc⟩ ⟨some ⟨g4, o4, none⟩, da, tb, db, tc, dc⟩ g1 o1) :=
    ⟨HA3.out.trans (HBC.out.mono HA3.out.size), HX3.out.2.on HBC.out, ((Kept.set (F := fun j => j = g4) _ ⟨g4, o4, none⟩ (.int .i64 1) rfl).block w4.heap.size (by simp) (fun e => hne e.symm)).trans HR6.out, HF3.out.on HBC.out, HX3.out.1.on HBC.out, HM.out, rfl, (HBC.out.cell (p := ⟨g1, o1, none⟩) (block_lt_of_cell HC3.out)).trans HC3.out, Nat.lt_of_lt_of_le (block_lt_of_cell HC3.out) HBC.out.size⟩
  have HY6 : Hid (∀ w, RowT 27 w w4.heap.size (mCs Mx.least ⟨some ⟨g4, o4, none⟩, da, tb, db, tc, dc⟩) → w.cell? ⟨w4.heap.size, 8, none⟩ = some (.slice (some ⟨g4, o4, none⟩) 1 da)) := fun w h => h.mat.2.2.2.2.2.2.2.2.1
  have y8 := HY6.out _ HR6.out
  clear hm4 hF4 hb4 hb5 hh4 hh5 hB4 HM HBC hc4 e4 HA3 HX3 HC3 HF3 HR6 hne HY HY6
  go_wp2_with fail
  generalize (w4.alloc (.cells #[.int .i64 1, .int .i64 2, .int .i64 1, .int .i64 200, .int .i64 1, .int .i64 16, .int .i64 0, .int .u32 0, .slice (some ⟨g4, o4, none⟩) 1 da, .slice tb 1 db, .slice tc 0 dc] 27)).setCell ⟨g4, o4, none⟩ (.int .i64 1) = wD at HK ⊢
  generalize w4.heap.size = p6 at HK ⊢
  clear x4 f4 y8
  have HIs : Hid (∀ w', K12 W w' p1 p2 p6 ⟨some ⟨g1, o1, none⟩, ca, sb, cb, sc, cc⟩ ⟨some ⟨g4, o4, none⟩, da, tb, db, tc, dc⟩ g1 o1 → Calls Tryd.prog 13 #[.agg #[.int .i64 1, .int .i64 2, .int .i64 1, .int .i64 200, .int .i64 1, .int .i64 16, .int .i64 0, .int .u32 0, .slice (some ⟨g1, o1, none⟩) 1 ca, .slice sb 1 cb, .slice sc 0 cc]] w' fun e w'' => e = .returned (.bool true) ∧ Below w'.heap.size w' w'') := fun w' h => S.is w' Mx.least ⟨some ⟨g1, o1, none⟩, ca, sb, cb, sc, cc⟩ (HQ.out _ h.below) h.i1 small_least wf_least
  have HIz : Hid (∀ w', K12 W w' p1 p2 p6 ⟨some ⟨g1, o1, none⟩, ca, sb, cb, sc, cc⟩ ⟨some ⟨g4, o4, none⟩, da, tb, db, tc, dc⟩ g1 o1 → Calls Tryd.prog 13 #[.agg #[.int .i64 0, .int .i64 0, .int .i64 0, .int .i64 0, .int .i64 0, .int .i64 0, .int .i64 0, .int .u32 0, .slice none 0 0, .slice none 0 0, .slice none 0 0]] w' fun e w'' => e = .returned (.bool false) ∧ Below w'.heap.size w' w'') := fun w' h => S.is w' Mx.zero ⟨none, 0, none, 0, none, 0⟩ (HQ.out _ h.below) ⟨⟨Nat.le_refl _, Nat.zero_le _, Or.inl rfl⟩, ⟨Nat.le_refl _, Nat.zero_le _, Or.inl rfl⟩, ⟨Nat.le_refl _, Nat.zero_le _, Or.inl rfl⟩⟩ small_zero wf_zero
  have HLe : Hid (∀ w', K12 W w' p1 p2 p6 ⟨some ⟨g1, o1, none⟩, ca, sb, cb, sc, cc⟩ ⟨some ⟨g4, o4, none⟩, da, tb, db, tc, dc⟩ g1 o1 → Calls Tryd.prog 23 #[] w' fun e w'' => ∃ a9, e = .returned (mV Mx.least a9) ∧ MIn w'' Mx.least a9 ∧ Below w'.heap.size w' w'') := fun w' h => (least_any w').mono fun e w'' ⟨a, he, hm, _, hb⟩ => ⟨a, he, hm, hb⟩
  have HSa : Hid (∀ w' a9, K12 W w' p1 p2 p6 ⟨some ⟨g1, o1, none⟩, ca, sb, cb, sc, cc⟩ ⟨some ⟨g4, o4, none⟩, da, tb, db, tc, dc⟩ g1 o1 → MIn w' Mx.least a9 → Calls Tryd.prog 15 #[.agg #[.int .i64 1, .int .i64 2, .int .i64 1, .int .i64 200, .int .i64 1, .int .i64 16, .int .i64 0, .int .u32 0, .slice (some ⟨g1, o1, none⟩) 1 ca, .slice sb 1 cb, .slice sc 0 cc], mV Mx.least a9] w' fun e w'' => e = .returned (.bool true) ∧ Below w'.heap.size w' w'') := fun w' a9 h hm => S.same w' Mx.least Mx.least ⟨some ⟨g1, o1, none⟩, ca, sb, cb, sc, cc⟩ a9 (HQ.out _ h.below) h.i1 hm small_least small_least wf_least wf_least
  have HSb : Hid (∀ w', K12 W w' p1 p2 p6 ⟨some ⟨g1, o1, none⟩, ca, sb, cb, sc, cc⟩ ⟨some ⟨g4, o4, none⟩, da, tb, db, tc, dc⟩ g1 o1 → Calls Tryd.prog 15 #[.agg #[.int .i64 1, .int .i64 2, .int .i64 1, .int .i64 200, .int .i64 1, .int .i64 16, .int .i64 0, .int .u32 0, .slice (some ⟨g1, o1, none⟩) 1 ca, .slice sb 1 cb, .slice sc 0 cc], .agg #[.int .i64 1, .int .i64 2, .int .i64 1, .int .i64 200, .int .i64 1, .int .i64 16, .int .i64 0, .int .u32 0, .slice (some ⟨g4, o4, none⟩) 1 da, .slice tb 1 db, .slice tc 0 dc]] w' fun e w'' => e = .returned (.bool false) ∧ Below w'.heap.size w' w'') := fun w' h => S.same w' Mx.least Mx.least1 ⟨some ⟨g1, o1, none⟩, ca, sb, cb, sc, cc⟩ ⟨some ⟨g4, o4, none⟩, da, tb, db, tc, dc⟩ (HQ.out _ h.below) h.i1 h.i4 small_least small_least1 wf_least wf_least1
  have HFi : Hid (∀ w', K12 W w' p1 p2 p6 ⟨some ⟨g1, o1, none⟩, ca, sb, cb, sc, cc⟩ ⟨some ⟨g4, o4, none⟩, da, tb, db, tc, dc⟩ g1 o1 → Calls Tryd.prog 17 #[.agg #[.int .i64 1, .int .i64 2, .int .i64 1, .int .i64 200, .int .i64 1, .int .i64 16, .int .i64 0, .int .u32 0, .slice (some ⟨g1, o1, none⟩) 1 ca, .slice sb 1 cb, .slice sc 0 cc], .agg #[.bool false, .int .u32 9, .bool false, .string ⟨#[97]⟩]] w' fun e w'' => e = .returned (.int .i64 0) ∧ Below w'.heap.size w' w'') := fun w' h => S.find w' Mx.least ⟨some ⟨g1, o1, none⟩, ca, sb, cb, sc, cc⟩ false false 9 ⟨#[97]⟩ (HQ.out _ h.below) h.i1 small_least wf_least (by decide)
  have HRa : Hid (∀ w', K12 W w' p1 p2 p6 ⟨some ⟨g1, o1, none⟩, ca, sb, cb, sc, cc⟩ ⟨some ⟨g4, o4, none⟩, da, tb, db, tc, dc⟩ g1 o1 → Calls Tryd.prog 19 #[.agg #[.int .i64 1, .int .i64 2, .int .i64 1, .int .i64 200, .int .i64 1, .int .i64 16, .int .i64 0, .int .u32 0, .slice (some ⟨g1, o1, none⟩) 1 ca, .slice sb 1 cb, .slice sc 0 cc], .int .i64 0] w' fun e w'' => e = .returned (.int .i64 0) ∧ Below w'.heap.size w' w'') := fun w' h => S.rank w' Mx.least ⟨some ⟨g1, o1, none⟩, ca, sb, cb, sc, cc⟩ 0 (HQ.out _ h.below) h.i1 small_least wf_least rfl
  have HRb : Hid (∀ w', K12 W w' p1 p2 p6 ⟨some ⟨g1, o1, none⟩, ca, sb, cb, sc, cc⟩ ⟨some ⟨g4, o4, none⟩, da, tb, db, tc, dc⟩ g1 o1 → Calls Tryd.prog 19 #[.agg #[.int .i64 1, .int .i64 2, .int .i64 1, .int .i64 200, .int .i64 1, .int .i64 16, .int .i64 0, .int .u32 0, .slice (some ⟨g1, o1, none⟩) 1 ca, .slice sb 1 cb, .slice sc 0 cc], .int .i64 1] w' fun e w'' => e = .returned (.int .i64 (-1)) ∧ Below w'.heap.size w' w'') := fun w' h => S.rank w' Mx.least ⟨some ⟨g1, o1, none⟩, ca, sb, cb, sc, cc⟩ 1 (HQ.out _ h.below) h.i1 small_least wf_least rfl
  have HCa : Hid (∀ w', K12 W w' p1 p2 p6 ⟨some ⟨g1, o1, none⟩, ca, sb, cb, sc, cc⟩ ⟨some ⟨g4, o4, none⟩, da, tb, db, tc, dc⟩ g1 o1 → Calls Tryd.prog 21 #[.int .i64 1, .int .i64 2, .int .i64 3] w' fun e w'' => e = .returned (.bool true) ∧ Below w'.heap.size w' w'') := fun w' h => S.comes w' 1 2 3 (HQ.out _ h.below) rfl rfl rfl
  have HCb : Hid (∀ w', K12 W w' p1 p2 p6 ⟨some ⟨g1, o1, none⟩, ca, sb, cb, sc, cc⟩ ⟨some ⟨g4, o4, none⟩, da, tb, db, tc, dc⟩ g1 o1 → Calls Tryd.prog 21 #[.int .i64 1, .int .i64 2, .int .i64 2] w' fun e w'' => e = .returned (.bool false) ∧ Below w'.heap.size w' w'') := fun w' h => S.comes w' 1 2 2 (HQ.out _ h.below) rfl rfl rfl
  refine wp_region_held_drew (S := fun w' => C12 w' p1 p2 p6 ⟨some ⟨g1, o1, none⟩, ca, sb, cb, sc, cc⟩ ⟨some ⟨g4, o4, none⟩, da, tb, db, tc, dc⟩ g1 o1) (by kernel_rfl) (HK.out.on (Below.refl _ _).drew).cells (fun hHeld => ?_)
  replace HK : Hid (K12 W _ p1 p2 p6 ⟨some ⟨g1, o1, none⟩, ca, sb, cb, sc, cc⟩ ⟨some ⟨g4, o4, none⟩, da, tb, db, tc, dc⟩ g1 o1) := HK.out.on (Below.refl _ _).drew
  refine takeL (i := 0) (d := 27) (v := ?_) rfl (by kernel_rfl) (by kernel_rfl) (by kernel_rfl) (fun _ _ _ h => h) (by rfl) ?_ (by assumption) ?_
  rotate_left
  · intro w hSw; unfold C12 at hSw; go_simp; (try with_reducible rfl)
  simp only [Act.put, List.setIfInBounds_toArray, List.set_cons_zero, List.set_cons_succ]
  refine consL (i := 1) (d := 28) rfl (by kernel_rfl) (fun K' hK' => ?_)
  go_simp
  refine (HIs.out _ HK.out).mono ?_
  rintro e w' ⟨rfl, hb'⟩
  replace HK : Hid (K12 W w' p1 p2 p6 ⟨some ⟨g1, o1, none⟩, ca, sb, cb, sc, cc⟩ ⟨some ⟨g4, o4, none⟩, da, tb, db, tc, dc⟩ g1 o1) := HK.out.on hb'
  clear hb' hHeld
  try go_wp2_with fail
  refine hK'.out _ _ HK.out.cells (fun hHeld => ?_)
  clear hK' K'
  refine takeL (i := 2) (d := 29) (v := ?_) rfl (by kernel_rfl) (by kernel_rfl) (by kernel_rfl) (fun _ _ _ h => h) (by rfl) ?_ (by assumption) ?_
  rotate_left
  · intro w hSw; unfold C12 at hSw; go_simp; (try with_reducible rfl)
  simp only [Act.put, List.setIfInBounds_toArray, List.set_cons_zero, List.set_cons_succ]
  refine takeL (i := 3) (d := 30) (v := ?_) rfl (by kernel_rfl) (by kernel_rfl) (by kernel_rfl) (fun _ _ _ h => h) (by rfl) ?_ (by assumption) ?_
  rotate_left
  · intro w hSw; unfold C12 at hSw; go_simp; (try with_reducible rfl)
  simp only [Act.put, List.setIfInBounds_toArray, List.set_cons_zero, List.set_cons_succ]
  refine consL (i := 4) (d := 31) rfl (by kernel_rfl) (fun K' hK' => ?_)
  go_simp
  refine (HIz.out _ HK.out).mono ?_
  rintro e w' ⟨rfl, hb'⟩
  replace HK : Hid (K12 W w' p1 p2 p6 ⟨some ⟨g1, o1, none⟩, ca, sb, cb, sc, cc⟩ ⟨some ⟨g4, o4, none⟩, da, tb, db, tc, dc⟩ g1 o1) := HK.out.on hb'
  clear hb' hHeld
  try go_wp2_with fail
  refine hK'.out _ _ HK.out.cells (fun hHeld => ?_)
  clear hK' K'
  refine takeL (i := 5) (d := 32) (v := ?_) rfl (by kernel_rfl) (by kernel_rfl) (by kernel_rfl) (fun _ _ _ h => h) (by rfl) ?_ (by assumption) ?_
  rotate_left
  · intro w hSw; unfold C12 at hSw; go_simp; (try with_reducible rfl)
  simp only [Act.put, List.setIfInBounds_toArray, List.set_cons_zero, List.set_cons_succ]
  refine takeL (i := 6) (d := 33) (v := ?_) rfl (by kernel_rfl) (by kernel_rfl) (by kernel_rfl) (fun _ _ _ h => h) (by rfl) ?_ (by assumption) ?_
  rotate_left
  · intro w hSw; unfold C12 at hSw; go_simp; (try with_reducible rfl)
  simp only [Act.put, List.setIfInBounds_toArray, List.set_cons_zero, List.set_cons_succ]
  refine takeL (i := 7) (d := 34) (v := ?_) rfl (by kernel_rfl) (by kernel_rfl) (by kernel_rfl) (fun _ _ _ h => h) (by rfl) ?_ (by assumption) ?_
  rotate_left
  · intro w hSw; unfold C12 at hSw; go_simp; (try with_reducible rfl)
  simp only [Act.put, List.setIfInBounds_toArray, List.set_cons_zero, List.set_cons_succ]
  refine takeL (i := 8) (d := 35) (v := ?_) rfl (by kernel_rfl) (by kernel_rfl) (by kernel_rfl) (fun _ _ _ h => h) (by rfl) ?_ (by assumption) ?_
  rotate_left
  · intro w hSw; unfold C12 at hSw; go_simp; (try with_reducible rfl)
  simp only [Act.put, List.setIfInBounds_toArray, List.set_cons_zero, List.set_cons_succ]
  refine consL (i := 9) (d := 36) rfl (by kernel_rfl) (fun K' hK' => ?_)
  go_simp
  refine (HLe.out _ HK.out).mono ?_
  rintro e w' ⟨a9, rfl, hm9, hb'⟩
  replace HK : Hid (K12 W w' p1 p2 p6 ⟨some ⟨g1, o1, none⟩, ca, sb, cb, sc, cc⟩ ⟨some ⟨g4, o4, none⟩, da, tb, db, tc, dc⟩ g1 o1) := HK.out.on hb'
  have HM9 : Hid (MIn w' Mx.least a9) := hm9
  clear hm9
  clear hb' hHeld
  try go_wp2_with fail
  refine hK'.out _ _ HK.out.cells (fun hHeld => ?_)
  clear hK' K'
  refine consL (i := 10) (d := 37) rfl (by kernel_rfl) (fun K' hK' => ?_)
  go_simp
  refine (HSa.out _ a9 HK.out HM9.out).mono ?_
  rintro e w' ⟨rfl, hb'⟩
  replace HK : Hid (K12 W w' p1 p2 p6 ⟨some ⟨g1, o1, none⟩, ca, sb, cb, sc, cc⟩ ⟨some ⟨g4, o4, none⟩, da, tb, db, tc, dc⟩ g1 o1) := HK.out.on hb'
  clear hb' hHeld
  try go_wp2_with fail
  refine hK'.out _ _ HK.out.cells (fun hHeld => ?_)
  clear hK' K'
  refine takeL (i := 11) (d := 38) (v := ?_) rfl (by kernel_rfl) (by kernel_rfl) (by kernel_rfl) (fun _ _ _ h => h) (by rfl) ?_ (by assumption) ?_
  rotate_left
  · intro w hSw; unfold C12 at hSw; go_simp; (try with_reducible rfl)
  simp only [Act.put, List.setIfInBounds_toArray, List.set_cons_zero, List.set_cons_succ]
  refine takeL (i := 12) (d := 39) (v := ?_) rfl (by kernel_rfl) (by kernel_rfl) (by kernel_rfl) (fun _ _ _ h => h) (by rfl) ?_ (by assumption) ?_
  rotate_left
  · intro w hSw; unfold C12 at hSw; go_simp; (try with_reducible rfl)
  simp only [Act.put, List.setIfInBounds_toArray, List.set_cons_zero, List.set_cons_succ]
  refine takeL (i := 13) (d := 40) (v := ?_) rfl (by kernel_rfl) (by kernel_rfl) (by kernel_rfl) (fun _ _ _ h => h) (by rfl) ?_ (by assumption) ?_
  rotate_left
  · intro w hSw; unfold C12 at hSw; go_simp; (try with_reducible rfl)
  simp only [Act.put, List.setIfInBounds_toArray, List.set_cons_zero, List.set_cons_succ]
  refine takeL (i := 14) (d := 41) (v := ?_) rfl (by kernel_rfl) (by kernel_rfl) (by kernel_rfl) (fun _ _ _ h => h) (by rfl) ?_ (by assumption) ?_
  rotate_left
  · intro w hSw; unfold C12 at hSw; go_simp; (try with_reducible rfl)
  simp only [Act.put, List.setIfInBounds_toArray, List.set_cons_zero, List.set_cons_succ]
  refine consL (i := 15) (d := 42) rfl (by kernel_rfl) (fun K' hK' => ?_)
  go_simp
  refine (HSb.out _ HK.out).mono ?_
  rintro e w' ⟨rfl, hb'⟩
  replace HK : Hid (K12 W w' p1 p2 p6 ⟨some ⟨g1, o1, none⟩, ca, sb, cb, sc, cc⟩ ⟨some ⟨g4, o4, none⟩, da, tb, db, tc, dc⟩ g1 o1) := HK.out.on hb'
  clear hb' hHeld
  try go_wp2_with fail
  refine hK'.out _ _ HK.out.cells (fun hHeld => ?_)
  clear hK' K'
  refine takeL (i := 16) (d := 43) (v := ?_) rfl (by kernel_rfl) (by kernel_rfl) (by kernel_rfl) (fun _ _ _ h => h) (by rfl) ?_ (by assumption) ?_
  rotate_left
  · intro w hSw; unfold C12 at hSw; go_simp; (try with_reducible rfl)
  simp only [Act.put, List.setIfInBounds_toArray, List.set_cons_zero, List.set_cons_succ]
  refine takeL (i := 17) (d := 44) (v := ?_) rfl (by kernel_rfl) (by kernel_rfl) (by kernel_rfl) (fun _ _ _ h => h) (by rfl) ?_ (by assumption) ?_
  rotate_left
  · intro w hSw; unfold C12 at hSw; go_simp; (try with_reducible rfl)
  simp only [Act.put, List.setIfInBounds_toArray, List.set_cons_zero, List.set_cons_succ]
  refine takeL (i := 18) (d := 45) (v := ?_) rfl (by kernel_rfl) (by kernel_rfl) (by kernel_rfl) (fun _ _ _ h => h) (by rfl) ?_ (by assumption) ?_
  rotate_left
  · intro w hSw; unfold C12 at hSw; go_simp; (try with_reducible rfl)
  simp only [Act.put, List.setIfInBounds_toArray, List.set_cons_zero, List.set_cons_succ]
  refine takeL (i := 19) (d := 46) (v := ?_) rfl (by kernel_rfl) (by kernel_rfl) (by kernel_rfl) (fun _ _ _ h => h) (by rfl) ?_ (by assumption) ?_
  rotate_left
  · intro w hSw; unfold C12 at hSw; go_simp; (try with_reducible rfl)
  simp only [Act.put, List.setIfInBounds_toArray, List.set_cons_zero, List.set_cons_succ]
  refine takeL (i := 20) (d := 47) (v := ?_) rfl (by kernel_rfl) (by kernel_rfl) (by kernel_rfl) (fun _ _ _ h => h) (by rfl) ?_ (by assumption) ?_
  rotate_left
  · intro w hSw; unfold C12 at hSw; go_simp; (try with_reducible rfl)
  simp only [Act.put, List.setIfInBounds_toArray, List.set_cons_zero, List.set_cons_succ]
  refine takeL (i := 21) (d := 48) (v := ?_) rfl (by kernel_rfl) (by kernel_rfl) (by kernel_rfl) (fun _ _ _ h => h) (by rfl) ?_ (by assumption) ?_
  rotate_left
  · intro w hSw; unfold C12 at hSw; go_simp; (try with_reducible rfl)
  simp only [Act.put, List.setIfInBounds_toArray, List.set_cons_zero, List.set_cons_succ]
  refine takeL (i := 22) (d := 49) (v := ?_) rfl (by kernel_rfl) (by kernel_rfl) (by kernel_rfl) (fun _ _ _ h => h) (by rfl) ?_ (by assumption) ?_
  rotate_left
  · intro w hSw; unfold C12 at hSw; go_simp; (try with_reducible rfl)
  simp only [Act.put, List.setIfInBounds_toArray, List.set_cons_zero, List.set_cons_succ]
  refine takeL (i := 23) (d := 50) (v := ?_) rfl (by kernel_rfl) (by kernel_rfl) (by kernel_rfl) (fun _ _ _ h => h) (by rfl) ?_ (by assumption) ?_
  rotate_left
  · intro w hSw; unfold C12 at hSw; go_simp; (try with_reducible rfl)
  simp only [Act.put, List.setIfInBounds_toArray, List.set_cons_zero, List.set_cons_succ]
  refine takeL (i := 24) (d := 51) (v := ?_) rfl (by kernel_rfl) (by kernel_rfl) (by kernel_rfl) (fun _ _ _ h => h) (by rfl) ?_ (by assumption) ?_
  rotate_left
  · intro w hSw; unfold C12 at hSw; go_simp; (try with_reducible rfl)
  simp only [Act.put, List.setIfInBounds_toArray, List.set_cons_zero, List.set_cons_succ]
  refine takeL (i := 25) (d := 52) (v := ?_) rfl (by kernel_rfl) (by kernel_rfl) (by kernel_rfl) (fun _ _ _ h => h) (by rfl) ?_ (by assumption) ?_
  rotate_left
  · intro w hSw; unfold C12 at hSw; go_simp; (try with_reducible rfl)
  simp only [Act.put, List.setIfInBounds_toArray, List.set_cons_zero, List.set_cons_succ]
  refine takeL (i := 26) (d := 53) (v := ?_) rfl (by kernel_rfl) (by kernel_rfl) (by kernel_rfl) (fun _ _ _ h => h) (by rfl) ?_ (by assumption) ?_
  rotate_left
  · intro w hSw; unfold C12 at hSw; go_simp; (try with_reducible rfl)
  simp only [Act.put, List.setIfInBounds_toArray, List.set_cons_zero, List.set_cons_succ]
  refine takeL (i := 27) (d := 54) (v := ?_) rfl (by kernel_rfl) (by kernel_rfl) (by kernel_rfl) (fun _ _ _ h => h) (by rfl) ?_ (by assumption) ?_
  rotate_left
  · intro w hSw; unfold C12 at hSw; go_simp; (try with_reducible rfl)
  simp only [Act.put, List.setIfInBounds_toArray, List.set_cons_zero, List.set_cons_succ]
  refine takeL (i := 28) (d := 55) (v := ?_) rfl (by kernel_rfl) (by kernel_rfl) (by kernel_rfl) (fun _ _ _ h => h) (by rfl) ?_ (by assumption) ?_
  rotate_left
  · intro w hSw; unfold C12 at hSw; go_simp; (try with_reducible rfl)
  simp only [Act.put, List.setIfInBounds_toArray, List.set_cons_zero, List.set_cons_succ]
  refine takeL (i := 29) (d := 56) (v := ?_) rfl (by kernel_rfl) (by kernel_rfl) (by kernel_rfl) (fun _ _ _ h => h) (by rfl) ?_ (by assumption) ?_
  rotate_left
  · intro w hSw; unfold C12 at hSw; go_simp; (try with_reducible rfl)
  simp only [Act.put, List.setIfInBounds_toArray, List.set_cons_zero, List.set_cons_succ]
  refine takeL (i := 30) (d := 57) (v := ?_) rfl (by kernel_rfl) (by kernel_rfl) (by kernel_rfl) (fun _ _ _ h => h) (by rfl) ?_ (by assumption) ?_
  rotate_left
  · intro w hSw; unfold C12 at hSw; go_simp; (try with_reducible rfl)
  simp only [Act.put, List.setIfInBounds_toArray, List.set_cons_zero, List.set_cons_succ]
  refine takeL (i := 31) (d := 58) (v := ?_) rfl (by kernel_rfl) (by kernel_rfl) (by kernel_rfl) (fun _ _ _ h => h) (by rfl) ?_ (by assumption) ?_
  rotate_left
  · intro w hSw; unfold C12 at hSw; go_simp; (try with_reducible rfl)
  simp only [Act.put, List.setIfInBounds_toArray, List.set_cons_zero, List.set_cons_succ]
  refine takeL (i := 32) (d := 59) (v := ?_) rfl (by kernel_rfl) (by kernel_rfl) (by kernel_rfl) (fun _ _ _ h => h) (by rfl) ?_ (by assumption) ?_
  rotate_left
  · intro w hSw; unfold C12 at hSw; go_simp; (try with_reducible rfl)
  simp only [Act.put, List.setIfInBounds_toArray, List.set_cons_zero, List.set_cons_succ]
  refine takeL (i := 33) (d := 60) (v := ?_) rfl (by kernel_rfl) (by kernel_rfl) (by kernel_rfl) (fun _ _ _ h => h) (by rfl) ?_ (by assumption) ?_
  rotate_left
  · intro w hSw; unfold C12 at hSw; go_simp; (try with_reducible rfl)
  simp only [Act.put, List.setIfInBounds_toArray, List.set_cons_zero, List.set_cons_succ]
  refine takeL (i := 34) (d := 61) (v := ?_) rfl (by kernel_rfl) (by kernel_rfl) (by kernel_rfl) (fun _ _ _ h => h) (by rfl) ?_ (by assumption) ?_
  rotate_left
  · intro w hSw; unfold C12 at hSw; go_simp; (try with_reducible rfl)
  simp only [Act.put, List.setIfInBounds_toArray, List.set_cons_zero, List.set_cons_succ]
  refine takeL (i := 35) (d := 62) (v := ?_) rfl (by kernel_rfl) (by kernel_rfl) (by kernel_rfl) (fun _ _ _ h => h) (by rfl) ?_ (by assumption) ?_
  rotate_left
  · intro w hSw; unfold C12 at hSw; go_simp; (try with_reducible rfl)
  simp only [Act.put, List.setIfInBounds_toArray, List.set_cons_zero, List.set_cons_succ]
  refine takeL (i := 36) (d := 63) (v := ?_) rfl (by kernel_rfl) (by kernel_rfl) (by kernel_rfl) (fun _ _ _ h => h) (by rfl) ?_ (by assumption) ?_
  rotate_left
  · intro w hSw; unfold C12 at hSw; go_simp; (try with_reducible rfl)
  simp only [Act.put, List.setIfInBounds_toArray, List.set_cons_zero, List.set_cons_succ]
  refine takeL (i := 37) (d := 64) (v := ?_) rfl (by kernel_rfl) (by kernel_rfl) (by kernel_rfl) (fun _ _ _ h => h) (by rfl) ?_ (by assumption) ?_
  rotate_left
  · intro w hSw; unfold C12 at hSw; go_simp; (try with_reducible rfl)
  simp only [Act.put, List.setIfInBounds_toArray, List.set_cons_zero, List.set_cons_succ]
  refine takeL (i := 38) (d := 65) (v := ?_) rfl (by kernel_rfl) (by kernel_rfl) (by kernel_rfl) (fun _ _ _ h => h) (by rfl) ?_ (by assumption) ?_
  rotate_left
  · intro w hSw; unfold C12 at hSw; go_simp; (try with_reducible rfl)
  simp only [Act.put, List.setIfInBounds_toArray, List.set_cons_zero, List.set_cons_succ]
  refine takeL (i := 39) (d := 66) (v := ?_) rfl (by kernel_rfl) (by kernel_rfl) (by kernel_rfl) (fun _ _ _ h => h) (by rfl) ?_ (by assumption) ?_
  rotate_left
  · intro w hSw; unfold C12 at hSw; go_simp; (try with_reducible rfl)
  simp only [Act.put, List.setIfInBounds_toArray, List.set_cons_zero, List.set_cons_succ]
  refine consL (i := 40) (d := 67) rfl (by kernel_rfl) (fun K' hK' => ?_)
  go_simp
  refine (HFi.out _ HK.out).mono ?_
  rintro e w' ⟨rfl, hb'⟩
  replace HK : Hid (K12 W w' p1 p2 p6 ⟨some ⟨g1, o1, none⟩, ca, sb, cb, sc, cc⟩ ⟨some ⟨g4, o4, none⟩, da, tb, db, tc, dc⟩ g1 o1) := HK.out.on hb'
  clear hb' hHeld
  try go_wp2_with fail
  refine hK'.out _ _ HK.out.cells (fun hHeld => ?_)
  clear hK' K'
  refine takeL (i := 41) (d := 68) (v := ?_) rfl (by kernel_rfl) (by kernel_rfl) (by kernel_rfl) (fun _ _ _ h => h) (by rfl) ?_ (by assumption) ?_
  rotate_left
  · intro w hSw; unfold C12 at hSw; go_simp; (try with_reducible rfl)
  simp only [Act.put, List.setIfInBounds_toArray, List.set_cons_zero, List.set_cons_succ]
  refine takeL (i := 42) (d := 69) (v := ?_) rfl (by kernel_rfl) (by kernel_rfl) (by kernel_rfl) (fun _ _ _ h => h) (by rfl) ?_ (by assumption) ?_
  rotate_left
  · intro w hSw; unfold C12 at hSw; go_simp; (try with_reducible rfl)
  simp only [Act.put, List.setIfInBounds_toArray, List.set_cons_zero, List.set_cons_succ]
  refine takeL (i := 43) (d := 70) (v := ?_) rfl (by kernel_rfl) (by kernel_rfl) (by kernel_rfl) (fun _ _ _ h => h) (by rfl) ?_ (by assumption) ?_
  rotate_left
  · intro w hSw; unfold C12 at hSw; go_simp; (try with_reducible rfl)
  simp only [Act.put, List.setIfInBounds_toArray, List.set_cons_zero, List.set_cons_succ]
  refine takeL (i := 44) (d := 71) (v := ?_) rfl (by kernel_rfl) (by kernel_rfl) (by kernel_rfl) (fun _ _ _ h => h) (by rfl) ?_ (by assumption) ?_
  rotate_left
  · intro w hSw; unfold C12 at hSw; go_simp; (try with_reducible rfl)
  simp only [Act.put, List.setIfInBounds_toArray, List.set_cons_zero, List.set_cons_succ]
  refine consL (i := 45) (d := 72) rfl (by kernel_rfl) (fun K' hK' => ?_)
  go_simp
  refine (HRa.out _ HK.out).mono ?_
  rintro e w' ⟨rfl, hb'⟩
  replace HK : Hid (K12 W w' p1 p2 p6 ⟨some ⟨g1, o1, none⟩, ca, sb, cb, sc, cc⟩ ⟨some ⟨g4, o4, none⟩, da, tb, db, tc, dc⟩ g1 o1) := HK.out.on hb'
  clear hb' hHeld
  try go_wp2_with fail
  refine hK'.out _ _ HK.out.cells (fun hHeld => ?_)
  clear hK' K'
  refine takeL (i := 46) (d := 73) (v := ?_) rfl (by kernel_rfl) (by kernel_rfl) (by kernel_rfl) (fun _ _ _ h => h) (by rfl) ?_ (by assumption) ?_
  rotate_left
  · intro w hSw; unfold C12 at hSw; go_simp; (try with_reducible rfl)
  simp only [Act.put, List.setIfInBounds_toArray, List.set_cons_zero, List.set_cons_succ]
  refine takeL (i := 47) (d := 74) (v := ?_) rfl (by kernel_rfl) (by kernel_rfl) (by kernel_rfl) (fun _ _ _ h => h) (by rfl) ?_ (by assumption) ?_
  rotate_left
  · intro w hSw; unfold C12 at hSw; go_simp; (try with_reducible rfl)
  simp only [Act.put, List.setIfInBounds_toArray, List.set_cons_zero, List.set_cons_succ]
  refine takeL (i := 48) (d := 75) (v := ?_) rfl (by kernel_rfl) (by kernel_rfl) (by kernel_rfl) (fun _ _ _ h => h) (by rfl) ?_ (by assumption) ?_
  rotate_left
  · intro w hSw; unfold C12 at hSw; go_simp; (try with_reducible rfl)
  simp only [Act.put, List.setIfInBounds_toArray, List.set_cons_zero, List.set_cons_succ]
  refine takeL (i := 49) (d := 76) (v := ?_) rfl (by kernel_rfl) (by kernel_rfl) (by kernel_rfl) (fun _ _ _ h => h) (by rfl) ?_ (by assumption) ?_
  rotate_left
  · intro w hSw; unfold C12 at hSw; go_simp; (try with_reducible rfl)
  simp only [Act.put, List.setIfInBounds_toArray, List.set_cons_zero, List.set_cons_succ]
  refine consL (i := 50) (d := 77) rfl (by kernel_rfl) (fun K' hK' => ?_)
  go_simp
  refine (HRb.out _ HK.out).mono ?_
  rintro e w' ⟨rfl, hb'⟩
  replace HK : Hid (K12 W w' p1 p2 p6 ⟨some ⟨g1, o1, none⟩, ca, sb, cb, sc, cc⟩ ⟨some ⟨g4, o4, none⟩, da, tb, db, tc, dc⟩ g1 o1) := HK.out.on hb'
  clear hb' hHeld
  try go_wp2_with fail
  refine hK'.out _ _ HK.out.cells (fun hHeld => ?_)
  clear hK' K'
  refine takeL (i := 51) (d := 78) (v := ?_) rfl (by kernel_rfl) (by kernel_rfl) (by kernel_rfl) (fun _ _ _ h => h) (by rfl) ?_ (by assumption) ?_
  rotate_left
  · intro w hSw; unfold C12 at hSw; go_simp; (try with_reducible rfl)
  simp only [Act.put, List.setIfInBounds_toArray, List.set_cons_zero, List.set_cons_succ]
  refine takeL (i := 52) (d := 79) (v := ?_) rfl (by kernel_rfl) (by kernel_rfl) (by kernel_rfl) (fun _ _ _ h => h) (by rfl) ?_ (by assumption) ?_
  rotate_left
  · intro w hSw; unfold C12 at hSw; go_simp; (try with_reducible rfl)
  simp only [Act.put, List.setIfInBounds_toArray, List.set_cons_zero, List.set_cons_succ]
  refine takeL (i := 53) (d := 80) (v := ?_) rfl (by kernel_rfl) (by kernel_rfl) (by kernel_rfl) (fun _ _ _ h => h) (by rfl) ?_ (by assumption) ?_
  rotate_left
  · intro w hSw; unfold C12 at hSw; go_simp; (try with_reducible rfl)
  simp only [Act.put, List.setIfInBounds_toArray, List.set_cons_zero, List.set_cons_succ]
  refine consL (i := 54) (d := 81) rfl (by kernel_rfl) (fun K' hK' => ?_)
  go_simp
  refine (HCa.out _ HK.out).mono ?_
  rintro e w' ⟨rfl, hb'⟩
  replace HK : Hid (K12 W w' p1 p2 p6 ⟨some ⟨g1, o1, none⟩, ca, sb, cb, sc, cc⟩ ⟨some ⟨g4, o4, none⟩, da, tb, db, tc, dc⟩ g1 o1) := HK.out.on hb'
  clear hb' hHeld
  try go_wp2_with fail
  refine hK'.out _ _ HK.out.cells (fun hHeld => ?_)
  clear hK' K'
  refine takeL (i := 55) (d := 82) (v := ?_) rfl (by kernel_rfl) (by kernel_rfl) (by kernel_rfl) (fun _ _ _ h => h) (by rfl) ?_ (by assumption) ?_
  rotate_left
  · intro w hSw; unfold C12 at hSw; go_simp; (try with_reducible rfl)
  simp only [Act.put, List.setIfInBounds_toArray, List.set_cons_zero, List.set_cons_succ]
  refine takeL (i := 56) (d := 83) (v := ?_) rfl (by kernel_rfl) (by kernel_rfl) (by kernel_rfl) (fun _ _ _ h => h) (by rfl) ?_ (by assumption) ?_
  rotate_left
  · intro w hSw; unfold C12 at hSw; go_simp; (try with_reducible rfl)
  simp only [Act.put, List.setIfInBounds_toArray, List.set_cons_zero, List.set_cons_succ]
  refine consL (i := 57) (d := 84) rfl (by kernel_rfl) (fun K' hK' => ?_)
  go_simp
  refine (HCb.out _ HK.out).mono ?_
  rintro e w' ⟨rfl, hb'⟩
  replace HK : Hid (K12 W w' p1 p2 p6 ⟨some ⟨g1, o1, none⟩, ca, sb, cb, sc, cc⟩ ⟨some ⟨g4, o4, none⟩, da, tb, db, tc, dc⟩ g1 o1) := HK.out.on hb'
  clear hb' hHeld
  try go_wp2_with fail
  refine hK'.out _ _ HK.out.cells (fun hHeld => ?_)
  clear hK' K'
  refine takeL (i := 58) (d := 85) (v := ?_) rfl (by kernel_rfl) (by kernel_rfl) (by kernel_rfl) (fun _ _ _ h => h) (by rfl) ?_ (by assumption) ?_
  rotate_left
  · intro w hSw; unfold C12 at hSw; go_simp; (try with_reducible rfl)
  simp only [Act.put, List.setIfInBounds_toArray, List.set_cons_zero, List.set_cons_succ]
  refine takeL (i := 59) (d := 86) (v := ?_) rfl (by kernel_rfl) (by kernel_rfl) (by kernel_rfl) (fun _ _ _ h => h) (by rfl) ?_ (by assumption) ?_
  rotate_left
  · intro w hSw; unfold C12 at hSw; go_simp; (try with_reducible rfl)
  simp only [Act.put, List.setIfInBounds_toArray, List.set_cons_zero, List.set_cons_succ]
  refine takeL (i := 60) (d := 0) (v := ?_) rfl (by kernel_rfl) (by kernel_rfl) (by kernel_rfl) (fun _ _ _ h => h) (by rfl) ?_ (by assumption) ?_
  rotate_left
  · intro w hSw; unfold C12 at hSw; go_simp; (try with_reducible rfl)
  simp only [Act.put, List.setIfInBounds_toArray, List.set_cons_zero]
  refine wpAnyH_done (by kernel_rfl) ?_ _
  go_wp2
  go_ret
  exact ⟨rfl, HK.out.below⟩
end Go.Proofs.YthknkolnalobjaaDoor
