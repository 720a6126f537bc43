/- Laws of the walk: events laid behind a list of events that may begin within its block. -/
import Derived.Test.YthkaekpoicodeaaGreatDoorUg
import Derived.Test.YthkaekpoicodeaaGreatDoorH1
import Derived.Deep.Upon
import Derived.Test.YthkaekpoicodeaaGreatDoorUa
import Derived.Test.YthkaekpoicodeaaGreatDoorU6
import Derived.Deep.CutBlock
import Derived.Deep.RegionLaw
import Derived.Deep.RegionWith
namespace Go.Proofs.YthkaekpoicodeaaGreatDoor
open Go.RowKit
set_option linter.unusedVariables false
theorem frozen_blk {w w' : World} {g k : Nat} (h : w'.heap[g]? = w.heap[g]?) : w'.frozen? ⟨g, k, none⟩ = w.frozen? ⟨g, k, none⟩ := by unfold World.frozen?; rw [h]
theorem cell_blkO {w w' : World} {g k : Nat} (h : w'.heap[g]? = w.heap[g]?) : w'.cell? ⟨g, k, none⟩ = w.cell? ⟨g, k, none⟩ := by unfold World.cell?; rw [h]
/-- Events, wherever they begin, and the room behind them. -/
def EvO (w : World) (s : Option Addr) (c : Nat) (l : List Mm.Ev) : Prop :=
  l.length ≤ c ∧ c ≤ maxLen ∧ (s = none ∧ c = 0 ∨ ∃ g o, s = some ⟨g, o, none⟩ ∧ g < w.heap.size ∧ (∀ k v, (evC l)[k]? = some v → w.cell? ⟨g, o + k, none⟩ = some v) ∧ ∀ j, j < (c - l.length) * 6 → (w.cell? ⟨g, o + l.length * 6 + j, none⟩).isSome = true ∧ w.frozen? ⟨g, o + l.length * 6 + j, none⟩ = false)
theorem EvO.empty (w : World) : EvO w none 0 [] := ⟨Nat.le_refl _, Nat.zero_le _, Or.inl ⟨rfl, rfl⟩⟩
theorem EvO.on {w w' : World} {s : Option Addr} {c : Nat} {l : List Mm.Ev} (h : EvO w s c l) (hz : w.heap.size ≤ w'.heap.size) (hb : ∀ q, s = some q → w'.heap[q.block]? = w.heap[q.block]?) : EvO w' s c l := by
  refine ⟨h.1, h.2.1, ?_⟩
  rcases h.2.2 with h0 | ⟨g, o, rfl, hg, hc, hr⟩
  · exact Or.inl h0
  · have e := hb _ rfl
    exact Or.inr ⟨g, o, rfl, Nat.lt_of_lt_of_le hg hz, fun k v hk => (cell_blkO e).trans (hc k v hk), fun j hj => ⟨by rw [cell_blkO e]; exact (hr j hj).1, by rw [frozen_blk e]; exact (hr j hj).2⟩⟩
theorem EvO.lt {w : World} {s : Option Addr} {c : Nat} {l : List Mm.Ev} (h : EvO w s c l) : ∀ q, s = some q → q.block < w.heap.size ∧ q.spot = none := by
  rintro q rfl
  rcases h.2.2 with ⟨h0, _⟩ | ⟨g, o, e, hg, hc, hr⟩
  · cases h0
  · injection e with e; subst e; exact ⟨hg, rfl⟩
theorem EvO.inn {w : World} {s : Option Addr} {c : Nat} {l : List Mm.Ev} (h : EvO w s c l) : EvIn w s c l := by
  refine ⟨h.1, h.2.1, ?_⟩
  rcases h.2.2 with ⟨_, h0⟩ | ⟨g, o, rfl, hg, hc, hr⟩
  · exact Or.inl (List.eq_nil_of_length_eq_zero (by have := h.1; omega))
  · exact Or.inr ⟨g, o, rfl, hg, hc⟩
/-- The latest hundred of more: the slice begins further behind. -/
theorem EvO.cut {w : World} {g o c : Nat} {l : List Mm.Ev} (h : EvO w (some ⟨g, o, none⟩) c l) (k : Nat) (hk : k ≤ l.length) : EvO w (some ⟨g, o + k * 6, none⟩) (c - k) (l.drop k) := by
  obtain ⟨h1, h2, h3⟩ := h
  rcases h3 with ⟨h0, _⟩ | ⟨g', o', e, hg, hc, hr⟩
  · cases h0
  · injection e with e
    injection e with e1 e2
    subst e1 e2
    refine ⟨by rw [List.length_drop]; omega, by omega, Or.inr ⟨g, o + k * 6, rfl, hg, fun j v hj => ?_, fun j hj => ?_⟩⟩
    · have el : evC l = evC (l.take k) ++ evC (l.drop k) := by rw [← evC_append, List.take_append_drop]
      have := hc (k * 6 + j) v (by rw [el, List.getElem?_append_right (by rw [evC_length, List.length_take]; omega), evC_length, List.length_take, show k * 6 + j - min k l.length * 6 = j by rw [Nat.min_eq_left hk]; omega]; exact hj)
      rw [show o + k * 6 + j = o + (k * 6 + j) by omega]
      exact this
    · rw [List.length_drop] at hj ⊢
      have := hr j (by omega)
      rw [show o + k * 6 + (l.length - k) * 6 + j = o + l.length * 6 + j by omega]
      exact this
theorem setCells_sizeO (g : Nat) (vs : List Value) : ∀ (o : Nat) (w : World), (w.setCells g o vs).heap.size = w.heap.size := by
  induction vs with
  | nil => intro o w; rfl
  | cons v r ih => intro o w; rw [World.setCells, ih]; simp
/-- append(a, b...). -/
theorem run_append_o (ty : TypeId) {B2 : Nat} {w : World} {s s2 : Option Addr} {c cap2 : Nat} {l l2 : List Mm.Ev} (h : EvO w s c l) (h2 : EvAt B2 w s2 cap2 l2) (hl : l.length + l2.length ≤ 1000) :
    ∃ s' c' w', (Builtin.append_ #[43, 43] ty #[.slice s l.length c, .slice s2 l2.length cap2]).run Tryz.prog w = .ok (.slice s' (l.length + l2.length) c') w' ∧ EvO w' s' c' (l ++ l2) ∧
      Kept (fun g => s.map (·.block) = some g) w w' ∧ (s' = s ∨ s' = some ⟨w.heap.size, 0, none⟩) := by
  obtain ⟨i0, hi, hz0, hz1, hz2⟩ := info_parts evInfo
  by_cases h0 : l2 = []
  · subst h0
    have hsrc : Src Tryz.prog i0.size 43 (.slice s2 0 cap2) 0 [] w := by
      rcases h2.nil with ⟨rfl, rfl⟩ | ⟨g, rfl⟩
      · exact Src.ofNil w Tryz.underlying43 0
      · exact Src.ofSlice w Tryz.underlying43 _ 0 cap2 [] (by simp) (fun j u hu => by simp at hu) (fun u hu => by simp at hu)
    have hr := run_append_nothing (P := Tryz.prog) w 43 43 ty 60 i0 Tryz.underlying43 hi s l.length c h.1 (.slice s2 0 cap2) hsrc
    exact ⟨s, c, w, hr, by rw [List.append_nil]; exact h, Kept.refl _ _, Or.inl rfl⟩
  · obtain ⟨g2, rfl, hB2, hlt2, hcap2, hmax2, hc2⟩ := h2.spot h0
    have hpos : 0 < l2.length := List.length_pos_iff.2 h0
    have hsrc : Src Tryz.prog i0.size 43 (.slice (some ⟨g2, 0, none⟩) l2.length cap2) l2.length (evC l2) w :=
      Src.ofSlice w Tryz.underlying43 _ l2.length cap2 (evC l2) (by rw [hz1]; exact evC_length l2) (fun j u hu => by
        have hadd : (⟨g2, 0, none⟩ : Addr).add j = ⟨g2, j, none⟩ := by unfold Addr.add; split <;> simp_all
        rw [hadd]; exact hc2 j u hu) (evC_one l2)
    by_cases hroom : l.length + l2.length ≤ c
    · rcases h.2.2 with ⟨_, hc0⟩ | ⟨g, o, rfl, hg, hc, hr⟩
      · omega
      · have hsp : ∀ j, j < (evC l2).length → (w.cell? ⟨g, o + l.length * 6 + j, none⟩).isSome = true ∧ w.frozen? ⟨g, o + l.length * 6 + j, none⟩ = false := fun j hj => hr j (by rw [evC_length] at hj; omega)
        have hrun := run_append_room_src (P := Tryz.prog) w 43 43 ty 60 i0 Tryz.underlying43 hi g o l.length c _ l2.length (evC l2) hsrc hroom (fun j hj => by rw [hz1]; exact (hsp j hj).1) (fun j hj => by rw [hz1]; exact (hsp j hj).2)
        rw [hz1] at hrun
        refine ⟨_, _, _, hrun, ?_, ?_, Or.inl rfl⟩
        · refine ⟨by rw [List.length_append]; exact hroom, h.2.1, Or.inr ⟨g, o, rfl, ?_, fun k v hk => ?_, fun j hj => ?_⟩⟩
          · rw [setCells_sizeO]; exact hg
          · rw [evC_append] at hk
            by_cases hkl : k < (evC l).length
            · rw [List.getElem?_append_left hkl] at hk
              rw [World.cell?_setCells_out g _ _ _ _ (fun _ _ => Or.inl (by show o + k < o + l.length * 6; rw [evC_length] at hkl; omega))]
              exact hc k v hk
            · rw [List.getElem?_append_right (by omega)] at hk
              have hj := (List.getElem?_eq_some_iff.1 hk).1
              have := World.cell?_setCells_in g (evC l2) (o + l.length * 6) w (fun j hj => (hsp j hj).1) (k - (evC l).length) hj
              have e : o + l.length * 6 + (k - (evC l).length) = o + k := by rw [evC_length] at hkl ⊢; omega
              rw [e] at this
              rw [this, ← hk]
              exact (List.getElem?_eq_getElem _).symm
          · rw [List.length_append] at hj ⊢
            have hs2 := hr (l2.length * 6 + j) (by omega)
            rw [show o + l.length * 6 + (l2.length * 6 + j) = o + (l.length + l2.length) * 6 + j by omega] at hs2
            refine ⟨?_, by rw [World.frozen?_setCells]; exact hs2.2⟩
            rw [World.cell?_setCells_out g _ _ _ _ (fun _ _ => Or.inr (by show o + l.length * 6 + (evC l2).length ≤ o + (l.length + l2.length) * 6 + j; rw [evC_length]; omega))]
            exact hs2.1
        · have key : ∀ (vs : List Value) (o' : Nat) (w : World), Kept (fun g' => (some (⟨g, o, none⟩ : Addr)).map (·.block) = some g') w (w.setCells g o' vs) := by
            intro vs
            induction vs with
            | nil => intro o' w; exact Kept.refl _ _
            | cons v r ih => intro o' w; rw [World.setCells]; exact (Kept.set (F := fun g' => (some (⟨g, o, none⟩ : Addr)).map (·.block) = some g') w ⟨g, o', none⟩ v rfl).trans (ih _ _) (fun g hg => Or.inl hg)
          exact key _ _ _
    · have hold : (Builtin.firstCells i0.size l.length (.slice s l.length c)).run Tryz.prog w.drew = .ok (evC l).toArray w.drew := by
        rcases h.2.2 with ⟨rfl, hc0⟩ | ⟨g, o, rfl, hg, hc, hr⟩
        · have e : l = [] := List.eq_nil_of_length_eq_zero (by have := h.1; omega)
          subst e
          exact run_firstCells_none w.drew _ 0 0 c
        · exact run_firstCells_some w.drew _ _ _ _ _ (evC l) (by rw [hz1]; exact evC_length l) (fun j u hu => by
            have hadd : (⟨g, o, none⟩ : Addr).add j = ⟨g, o + j, none⟩ := by unfold Addr.add; split <;> simp_all
            rw [hadd]; exact hc j u hu)
      have hrun := run_append_grow_src (P := Tryz.prog) w 43 43 ty 60 i0 _ Tryz.underlying43 hi hz0 s l.length c (evC l) hold _ l2.length (evC l2) hsrc (by omega) (by omega) (growslice_fits (by omega) (by rw [hz2]; omega))
      have hge := grownCap_ge w (l.length + l2.length) c 60
      have hle := grownCap_le_maxLen w (l.length + l2.length) c 60 (by simp only [maxLen]; omega)
      refine ⟨_, _, _, hrun, ?_, Kept.of_below (((Below.refl _ _).drew).alloc (Nat.le_refl _) _), Or.inr rfl⟩
      have hh : (w.drew.alloc (.cells ((evC l ++ evC l2).toArray ++ Builtin.zeroCells (Value.agg #[.int .i64 0, .bool false, .int .u32 0, .bool false, .string ⟨#[]⟩, .int .i64 0]).cells (grownCap w (l.length + l2.length) c 60 - (l.length + l2.length))) 60)).heap[w.heap.size]? = some (.cells ((evC l ++ evC l2).toArray ++ Builtin.zeroCells (Value.agg #[.int .i64 0, .bool false, .int .u32 0, .bool false, .string ⟨#[]⟩, .int .i64 0]).cells (grownCap w (l.length + l2.length) c 60 - (l.length + l2.length))) 60 (0, 0)) := heap_alloc_new w.drew _
      refine ⟨by rw [List.length_append]; exact hge, hle, Or.inr ⟨w.heap.size, 0, rfl, by simp, fun k v hk => ?_, fun j hj => ?_⟩⟩
      · rw [Nat.zero_add, cell_of_row _ _ _ _ _ _ hh, Array.getElem?_append_left (by rw [evC_append] at hk; simpa using (List.getElem?_eq_some_iff.1 hk).1), List.getElem?_toArray, ← evC_append]
        exact hk
      · rw [List.length_append] at hj ⊢
        refine ⟨?_, frozen_of_row _ _ _ _ _ hh⟩
        rw [Nat.zero_add, cell_of_row _ _ _ _ _ _ hh]
        refine Option.isSome_iff_exists.2 ⟨_, Array.getElem?_eq_getElem ?_⟩
        rw [Array.size_append, size_zeroCells, List.size_toArray, List.length_append, evC_length, evC_length]
        show (l.length + l2.length) * 6 + j < l.length * 6 + l2.length * 6 + (grownCap w (l.length + l2.length) c 60 - (l.length + l2.length)) * 6
        omega
theorem step_append_o {ops : Array Oper} {o : Oper} {a : Act} {w : World} {K : Act → World → Prop} {Q : Exit → Act → World → Prop} {E : Prop} (hgd : o.guard = none) (x y : Operand) (ho : o.op = .call { callee := .builtin .append, args := #[x, y], argTypes := #[43, 43] })
    {B2 : Nat} {s s2 : Option Addr} {n n2 c cap2 : Nat} {l l2 : List Mm.Ev} (hx : a.eval x = .slice s n c) (hy : a.eval y = .slice s2 n2 cap2) (hn : n = l.length) (hn2 : n2 = l2.length) (h : EvO w s c l) (h2 : EvAt B2 w s2 cap2 l2) (hl : l.length + l2.length ≤ 1000)
    (hk : ∀ s' c' w', EvO w' s' c' (l ++ l2) → Kept (fun g => s.map (·.block) = some g) w w' → (s' = s ∨ s' = some ⟨w.heap.size, 0, none⟩) → K (a.put o.dst (.slice s' (n + n2) c')) w') :
    if Region.wanted o (yielded ops a.tmps) = true then Oper.wp Tryz.prog o a w K Q else E := by
  have hw : Region.wanted o (yielded ops a.tmps) = true := by simp [Region.wanted, hgd]
  rw [if_pos hw]
  subst hn hn2
  obtain ⟨s', c', w', hr, h4, h5, h6⟩ := run_append_o o.type h h2 hl
  unfold Oper.wp execOp
  simp only [ho, resolve, invoke, builtin, Sem.run_bind, Sem.run_pure, Result.andThen_ok, List.map_toArray, List.map_cons, List.map_nil, hx, hy, hr]
  exact hk s' c' w' h4 h5 h6
/-- x[l:] of a slice of elements of k cells, wherever it begins. -/
theorem run_sliceO {P : Program} (t e : TypeId) (k : Nat) (ht : P.underlying t = some (.slice e)) (hz : (P.info? e).map (·.size) = some k) (g o len cap : Nat) (x : Int) (l : Nat) (hx : x = (l : Int)) (hl : l < len) (hl0 : 0 < l * k) (hc : len ≤ cap) (W : World) :
    (Instr.slice t (.slice (some ⟨g, o, none⟩) len cap) (some (.int .i64 x)) none none).run P W = .ok (.slice (some ⟨g, o + l * k, none⟩) (len - l) (cap - l)) W := by
  have ee : P.elem t = e := by simp [Program.elem, ht]
  have ht' : P.underlying t = some (.slice (P.elem t)) := by rw [ee]; exact ht
  subst hx
  rw [run_slice_l (P := P) W t (some ⟨g, o, none⟩) len cap ht' .i64 (l : Int) (by omega) (by omega)]
  rw [ee]
  cases hq : P.info? e with
  | none => simp [hq] at hz
  | some i =>
    have hs : i.size = k := by simpa [hq] using hz
    have hne : ¬ cap = l := by omega
    have h0 : ¬ l * k = 0 := by omega
    simp [sizeOf, typeInfo, hq, hs, sliced, hne, Addr.add]
    exact h0
end Go.Proofs.YthkaekpoicodeaaGreatDoor
/- Law 8's own world of the document's nodes: where it lies, and what stays when one of its parts is written. -/
namespace Go.Proofs.YthkaekpoicodeaaGreatDoor
open Go.RowKit
set_option linter.unusedVariables false
/-- A node of that world: its Mac's block and its reader's, where what it heard lies, the room of that, its plain state, what it heard. -/
structure Rn where
  q : Nat
  qr : Nat
  s : Option Addr
  c : Nat
  m : Mm.St
  h : List Mm.Ev
inductive Sl | hd | gm | gh | mac (i : Nat) | rd (i : Nat) | ev (i : Nat)
deriving DecidableEq
/-- The block of each part. -/
def bo (r gm gh : Nat) (N : List Rn) : Sl → Option Nat
  | .hd => some r
  | .gm => some gm
  | .gh => some gh
  | .mac i => (N[i]?).map (·.q)
  | .rd i => (N[i]?).map (·.qr)
  | .ev i => (N[i]?).bind (fun x => x.s.map (·.block))
def Inj (f : Sl → Option Nat) : Prop := ∀ a b g, f a = some g → f b = some g → a = b
/-- One part is laid anew, or stays. -/
theorem inj_one {f f' : Sl → Option Nat} (h : Inj f) (a0 : Sl) (B : Nat) (hB : ∀ a g, f a = some g → g < B) (h1 : ∀ a, a ≠ a0 → f' a = f a) (h2 : f' a0 = f a0 ∨ ∃ g, f' a0 = some g ∧ B ≤ g) : Inj f' := by
  intro a b g ha hb
  rcases h2 with h2 | ⟨g0, h2, hg0⟩
  · have e : ∀ a, f' a = f a := fun a => by
      by_cases e : a = a0
      · subst e; exact h2
      · exact h1 a e
    rw [e] at ha hb
    exact h a b g ha hb
  · by_cases ea : a = a0
    · by_cases eb : b = a0
      · rw [ea, eb]
      · subst ea
        rw [h1 b eb] at hb
        rw [h2] at ha
        injection ha with ha
        have := hB b g hb
        omega
    · rw [h1 a ea] at ha
      by_cases eb : b = a0
      · subst eb
        rw [h2] at hb
        injection hb with hb
        have := hB a g ha
        omega
      · rw [h1 b eb] at hb
        exact h a b g ha hb
structure RI (w : World) (r gm gh cm ch : Nat) (N : List Rn) (tr : List Bool) : Prop where
  head : w.heap[r]? = some (.cells #[.slice (some ⟨gm, 0, none⟩) N.length cm, .slice (some ⟨gh, 0, none⟩) N.length ch, .string ⟨(Bm.row tr).toArray⟩] 32 (0, 0))
  ms : ∃ cur : Array Value, w.heap[gm]? = some (.cells cur 38 (0, 0)) ∧ ∀ (i : Nat) (x : Rn), N[i]? = some x → cur[i]? = some (bptr x.q)
  hs : ∃ cur : Array Value, w.heap[gh]? = some (.cells cur 43 (0, 0)) ∧ ∀ (i : Nat) (x : Rn), N[i]? = some x → cur[i]? = some (.slice x.s x.h.length x.c)
  mac : ∀ x ∈ N, RMac w x.q x.qr x.m
  ev : ∀ x ∈ N, EvO w x.s x.c x.h
  inj : Inj (bo r gm gh N)
  lt : ∀ a g, bo r gm gh N a = some g → g < w.heap.size
  lo : 1 ≤ N.length
  hi : N.length ≤ 8
/-- The blocks that are its own. -/
def fpr (r gm gh : Nat) (N : List Rn) (g : Nat) : Prop := ∃ a, bo r gm gh N a = some g
theorem bo_mac {r gm gh : Nat} {N : List Rn} {i : Nat} {x : Rn} (h : N[i]? = some x) : bo r gm gh N (.mac i) = some x.q := by show (N[i]?).map _ = _; rw [h]; rfl
theorem bo_rd {r gm gh : Nat} {N : List Rn} {i : Nat} {x : Rn} (h : N[i]? = some x) : bo r gm gh N (.rd i) = some x.qr := by show (N[i]?).map _ = _; rw [h]; rfl
theorem bo_ev {r gm gh : Nat} {N : List Rn} {i : Nat} {x : Rn} (h : N[i]? = some x) : bo r gm gh N (.ev i) = x.s.map (·.block) := by show (N[i]?).bind _ = _; rw [h]; rfl
theorem mem_idx {N : List Rn} {x : Rn} (h : x ∈ N) : ∃ i : Nat, N[i]? = some x := List.getElem?_of_mem h
theorem RI.on {w w' : World} {r gm gh cm ch : Nat} {N : List Rn} {tr : List Bool} (h : RI w r gm gh cm ch N tr) (hz : w.heap.size ≤ w'.heap.size) (e : ∀ g, fpr r gm gh N g → w'.heap[g]? = w.heap[g]?) : RI w' r gm gh cm ch N tr := by
  obtain ⟨c1, m1, m2⟩ := h.ms
  obtain ⟨c2, n1, n2⟩ := h.hs
  refine ⟨(e r ⟨.hd, rfl⟩).trans h.head, ⟨c1, (e gm ⟨.gm, rfl⟩).trans m1, m2⟩, ⟨c2, (e gh ⟨.gh, rfl⟩).trans n1, n2⟩, fun x hx => ?_, fun x hx => ?_, h.inj, fun a g ha => Nat.lt_of_lt_of_le (h.lt a g ha) hz, h.lo, h.hi⟩
  · obtain ⟨i, hi⟩ := mem_idx hx
    exact (h.mac x hx).on (e _ ⟨.mac i, bo_mac hi⟩) (e _ ⟨.rd i, bo_rd hi⟩)
  · obtain ⟨i, hi⟩ := mem_idx hx
    exact (h.ev x hx).on hz (fun q hq => e _ ⟨.ev i, by rw [bo_ev hi, hq]; rfl⟩)
theorem RI.below {w w' : World} {r gm gh cm ch : Nat} {N : List Rn} {tr : List Bool} (h : RI w r gm gh cm ch N tr) (hb : Below w.heap.size w w') : RI w' r gm gh cm ch N tr := h.on hb.size (fun g ⟨a, ha⟩ => hb.block g (h.lt a g ha))
theorem get_setN {N : List Rn} {i j : Nat} {x y : Rn} (hx : N[i]? = some x) : (N.set i y)[j]? = if j = i then some y else N[j]? := by
  by_cases e : j = i
  · subst e; rw [if_pos rfl, List.getElem?_set_self (List.getElem?_eq_some_iff.1 hx).1]
  · rw [if_neg e, List.getElem?_set_ne (fun k => e k.symm)]
theorem bo_set {r gm gh : Nat} {N : List Rn} {i : Nat} {x y : Rn} (hx : N[i]? = some x) (a : Sl) (ha : a ≠ .mac i ∧ a ≠ .rd i ∧ a ≠ .ev i) : bo r gm gh (N.set i y) a = bo r gm gh N a := by
  obtain ⟨h1, h2, h3⟩ := ha
  cases a with
  | hd => rfl
  | gm => rfl
  | gh => rfl
  | mac j => show ((N.set i y)[j]?).map _ = _; rw [get_setN hx, if_neg (fun e => h1 (by rw [e]))]; rfl
  | rd j => show ((N.set i y)[j]?).map _ = _; rw [get_setN hx, if_neg (fun e => h2 (by rw [e]))]; rfl
  | ev j => show ((N.set i y)[j]?).bind _ = _; rw [get_setN hx, if_neg (fun e => h3 (by rw [e]))]; rfl
/-- One node sampled a bit: its Mac, and maybe its reader, are others. -/
theorem RI.setM {w w' : World} {r gm gh cm ch : Nat} {N : List Rn} {tr : List Bool} (h : RI w r gm gh cm ch N tr) {i : Nat} {x : Rn} (hx : N[i]? = some x) {qr : Nat} {m : Mm.St} (hk : Kept (fun g => g = x.q ∨ g = x.qr) w w') (hm : RMac w' x.q qr m) (hq : qr = x.qr ∨ w.heap.size ≤ qr) :
    RI w' r gm gh cm ch (N.set i ⟨x.q, qr, x.s, x.c, m, x.h⟩) tr := by
  have hmx := List.mem_of_getElem? hx
  have hset : ∀ a, a ≠ .rd i → bo r gm gh (N.set i ⟨x.q, qr, x.s, x.c, m, x.h⟩) a = bo r gm gh N a := fun a ha => by
    by_cases e1 : a = .mac i
    · subst e1
      rw [bo_mac (x := ⟨x.q, qr, x.s, x.c, m, x.h⟩) (by rw [get_setN hx, if_pos rfl]), bo_mac hx]
    · by_cases e2 : a = .ev i
      · subst e2
        rw [bo_ev (x := ⟨x.q, qr, x.s, x.c, m, x.h⟩) (by rw [get_setN hx, if_pos rfl]), bo_ev hx]
      · exact bo_set hx a ⟨e1, ha, e2⟩
  have hrd : bo r gm gh (N.set i ⟨x.q, qr, x.s, x.c, m, x.h⟩) (.rd i) = some qr := bo_rd (x := ⟨x.q, qr, x.s, x.c, m, x.h⟩) (by rw [get_setN hx, if_pos rfl])
  have blk : ∀ a g, bo r gm gh N a = some g → a ≠ .mac i → a ≠ .rd i → w'.heap[g]? = w.heap[g]? := fun a g ha h1 h2 => hk.block g (h.lt a g ha) (fun e => by
    rcases e with rfl | rfl
    · exact h1 (h.inj _ _ _ ha (bo_mac hx))
    · exact h2 (h.inj _ _ _ ha (bo_rd hx)))
  obtain ⟨c1, m1, m2⟩ := h.ms
  obtain ⟨c2, n1, n2⟩ := h.hs
  have hlen : (N.set i (⟨x.q, qr, x.s, x.c, m, x.h⟩ : Rn)).length = N.length := List.length_set
  refine ⟨?_, ⟨c1, (blk .gm gm rfl (by intro k; cases k) (by intro k; cases k)).trans m1, fun j y hy => ?_⟩, ⟨c2, (blk .gh gh rfl (by intro k; cases k) (by intro k; cases k)).trans n1, fun j y hy => ?_⟩, fun y hy => ?_, fun y hy => ?_, ?_, fun a g ha => ?_, by rw [hlen]; exact h.lo, by rw [hlen]; exact h.hi⟩
  · rw [hlen]; exact (blk .hd r rfl (by intro k; cases k) (by intro k; cases k)).trans h.head
  · rw [get_setN hx] at hy
    split at hy
    · rename_i e; injection hy with hy; subst hy e; exact m2 _ x hx
    · exact m2 j y hy
  · rw [get_setN hx] at hy
    split at hy
    · rename_i e; injection hy with hy; subst hy e; exact n2 _ x hx
    · exact n2 j y hy
  · obtain ⟨j, hj⟩ := mem_idx hy
    rw [get_setN hx] at hj
    split at hj
    · injection hj with hj; subst hj; exact hm
    · rename_i e
      exact (h.mac y (List.mem_of_getElem? hj)).on (blk (.mac j) _ (bo_mac hj) (fun k => e (by injection k)) (by intro k; cases k)) (blk (.rd j) _ (bo_rd hj) (by intro k; cases k) (fun k => e (by injection k)))
  · obtain ⟨j, hj⟩ := mem_idx hy
    rw [get_setN hx] at hj
    have key : ∀ z : Rn, N[j]? = some z → EvO w' z.s z.c z.h := fun z hz => (h.ev z (List.mem_of_getElem? hz)).on hk.size (fun q hq => blk (.ev j) _ (by rw [bo_ev hz, hq]; rfl) (by intro k; cases k) (by intro k; cases k))
    split at hj
    · rename_i e; injection hj with hj; subst hj e; exact key x hx
    · exact key y hj
  · refine inj_one h.inj (.rd i) w.heap.size h.lt hset ?_
    rw [hrd, bo_rd hx]
    rcases hq with rfl | hq
    · exact Or.inl rfl
    · exact Or.inr ⟨qr, rfl, hq⟩
  · by_cases e : a = .rd i
    · subst e
      rw [hrd] at ha
      injection ha with ha
      subst ha
      exact hm.lt
    · rw [hset a e] at ha
      exact Nat.lt_of_lt_of_le (h.lt a g ha) hk.size
/-- What one node heard is another list: its slice is stored. -/
theorem RI.setH {w w' : World} {r gm gh cm ch : Nat} {N : List Rn} {tr : List Bool} (h : RI w r gm gh cm ch N tr) {i : Nat} {x : Rn} (hx : N[i]? = some x) {s : Option Addr} {c : Nat} {l : List Mm.Ev} (hk : Kept (fun g => x.s.map (·.block) = some g) w w') (hE : EvO w' s c l) (hs : s.map (·.block) = x.s.map (·.block) ∨ ∃ q, s = some q ∧ w.heap.size ≤ q.block) :
    RI (w'.setCell ⟨gh, i, none⟩ (.slice s l.length c)) r gm gh cm ch (N.set i ⟨x.q, x.qr, s, c, x.m, l⟩) tr := by
  have hset : ∀ a, a ≠ .ev i → bo r gm gh (N.set i ⟨x.q, x.qr, s, c, x.m, l⟩) a = bo r gm gh N a := fun a ha => by
    by_cases e1 : a = .mac i
    · subst e1
      rw [bo_mac (x := ⟨x.q, x.qr, s, c, x.m, l⟩) (by rw [get_setN hx, if_pos rfl]), bo_mac hx]
    · by_cases e2 : a = .rd i
      · subst e2
        rw [bo_rd (x := ⟨x.q, x.qr, s, c, x.m, l⟩) (by rw [get_setN hx, if_pos rfl]), bo_rd hx]
      · exact bo_set hx a ⟨e1, e2, ha⟩
  have hev : bo r gm gh (N.set i ⟨x.q, x.qr, s, c, x.m, l⟩) (.ev i) = s.map (·.block) := bo_ev (x := ⟨x.q, x.qr, s, c, x.m, l⟩) (by rw [get_setN hx, if_pos rfl])
  have blk : ∀ a g, bo r gm gh N a = some g → a ≠ .ev i → w'.heap[g]? = w.heap[g]? := fun a g ha h1 => hk.block g (h.lt a g ha) (fun e => h1 (h.inj _ _ _ ha (by rw [bo_ev hx]; exact e)))
  have oth : ∀ g, g ≠ gh → (w'.setCell ⟨gh, i, none⟩ (.slice s l.length c)).heap[g]? = w'.heap[g]? := fun g hg => heap_setCell_other _ ⟨gh, i, none⟩ g _ hg
  have ngh : ∀ a g, bo r gm gh N a = some g → a ≠ .gh → g ≠ gh := fun a g ha h1 e => h1 (h.inj _ _ _ ha (by rw [e]; rfl))
  have hgl : gh < w.heap.size := h.lt .gh gh rfl
  have hz : (w'.setCell ⟨gh, i, none⟩ (.slice s l.length c)).heap.size = w'.heap.size := by simp
  obtain ⟨c1, m1, m2⟩ := h.ms
  obtain ⟨c2, n1, n2⟩ := h.hs
  have n1' : w'.heap[gh]? = some (.cells c2 43 (0, 0)) := (blk .gh gh rfl (by intro k; cases k)).trans n1
  have hlen : (N.set i (⟨x.q, x.qr, s, c, x.m, l⟩ : Rn)).length = N.length := List.length_set
  have hcell : i < c2.size := (Array.getElem?_eq_some_iff.1 (n2 i x hx)).1
  refine ⟨?_, ⟨c1, ?_, fun j y hy => ?_⟩, ⟨_, heap_setCell_same _ _ _ _ _ _ n1', fun j y hy => ?_⟩, fun y hy => ?_, fun y hy => ?_, ?_, fun a g ha => ?_, by rw [hlen]; exact h.lo, by rw [hlen]; exact h.hi⟩
  · rw [hlen, oth r (ngh .hd r rfl (by intro k; cases k))]; exact (blk .hd r rfl (by intro k; cases k)).trans h.head
  · rw [oth gm (ngh .gm gm rfl (by intro k; cases k))]; exact (blk .gm gm rfl (by intro k; cases k)).trans m1
  · rw [get_setN hx] at hy
    split at hy
    · rename_i e; injection hy with hy; subst hy e; exact m2 _ x hx
    · exact m2 j y hy
  · rw [get_setN hx] at hy
    split at hy
    · rename_i e
      injection hy with hy
      subst hy e
      rw [Array.getElem?_setIfInBounds_self_of_lt hcell]
    · rename_i e
      rw [Array.getElem?_setIfInBounds_ne (fun k => e k.symm)]
      exact n2 j y hy
  · obtain ⟨j, hj⟩ := mem_idx hy
    rw [get_setN hx] at hj
    have key : ∀ z : Rn, N[j]? = some z → RMac (w'.setCell ⟨gh, i, none⟩ (.slice s l.length c)) z.q z.qr z.m := fun z hz => (h.mac z (List.mem_of_getElem? hz)).on ((oth _ (ngh (.mac j) _ (bo_mac hz) (by intro k; cases k))).trans (blk (.mac j) _ (bo_mac hz) (by intro k; cases k))) ((oth _ (ngh (.rd j) _ (bo_rd hz) (by intro k; cases k))).trans (blk (.rd j) _ (bo_rd hz) (by intro k; cases k)))
    split at hj
    · rename_i e; injection hj with hj; subst hj e; exact key x hx
    · exact key y hj
  · obtain ⟨j, hj⟩ := mem_idx hy
    rw [get_setN hx] at hj
    split at hj
    · injection hj with hj
      subst hj
      refine hE.on (by rw [hz]; exact Nat.le_refl _) (fun q hq => oth _ (fun e => ?_))
      have hq : s = some q := hq
      rcases hs with hs | ⟨q', hs, hl⟩
      · rw [hq] at hs
        have h1 : bo r gm gh N (.ev i) = some gh := by rw [bo_ev hx, ← hs]; exact congrArg some e
        have := h.inj _ _ _ h1 (show bo r gm gh N .gh = some gh from rfl)
        cases this
      · rw [hq] at hs
        injection hs with hs
        subst hs
        omega
    · rename_i e
      exact (h.ev y (List.mem_of_getElem? hj)).on (by rw [hz]; exact hk.size) (fun q hq => (oth _ (ngh (.ev j) _ (by rw [bo_ev hj, hq]; rfl) (by intro k; cases k))).trans (blk (.ev j) _ (by rw [bo_ev hj, hq]; rfl) (fun k => e (by injection k))))
  · refine inj_one h.inj (.ev i) w.heap.size h.lt hset ?_
    rw [hev, bo_ev hx]
    rcases hs with hs | ⟨q, rfl, hl⟩
    · exact Or.inl hs
    · exact Or.inr ⟨q.block, rfl, hl⟩
  · by_cases e : a = .ev i
    · subst e
      rw [hev] at ha
      cases s with
      | none => cases ha
      | some q =>
        have : q.block = g := by simpa using ha
        rw [hz, ← this]
        exact (hE.lt q rfl).1
    · rw [hset a e] at ha
      rw [hz]
      exact Nat.lt_of_lt_of_le (h.lt a g ha) hk.size
end Go.Proofs.YthkaekpoicodeaaGreatDoor
/- Law 8's own world of the document's nodes: what holds while its nodes sample a bit. -/
namespace Go.Proofs.YthkaekpoicodeaaGreatDoor
open Go.RowKit
set_option linter.unusedVariables false
/-- So far: the first k nodes have sampled the bit. -/
def SofarR (N N' : List Rn) (k : Nat) (b : Bool) : Prop :=
  N'.length = N.length ∧ ∀ (j : Nat) (x : Rn), N[j]? = some x → ∃ x' : Rn, N'[j]? = some x' ∧ x'.q = x.q ∧ (if j < k then x'.m = (Mm.sample x.m b).1 ∧ x'.h = Mm.lst (x.h ++ (Mm.sample x.m b).2) else x'.m = x.m ∧ x'.h = x.h)
theorem sofarR_start (N : List Rn) (b : Bool) : SofarR N N 0 b := ⟨rfl, fun j x h => ⟨x, h, rfl, rfl, rfl⟩⟩
theorem sofarR_at {N N' : List Rn} {k : Nat} {b : Bool} (h : SofarR N N' k b) {x : Rn} (hx : N[k]? = some x) : ∃ qr s c, N'[k]? = some ⟨x.q, qr, s, c, x.m, x.h⟩ := by
  obtain ⟨x', h1, h2, h3⟩ := h.2 k x hx
  rw [if_neg (Nat.lt_irrefl _)] at h3
  cases x'
  dsimp only at h2 h3
  obtain ⟨h3, h4⟩ := h3
  subst h2 h3 h4
  exact ⟨_, _, _, h1⟩
theorem sofarR_next {N N' : List Rn} {k : Nat} {b : Bool} (h : SofarR N N' k b) {x : Rn} (hx : N[k]? = some x) (y : Rn) (hq : y.q = x.q) (hm : y.m = (Mm.sample x.m b).1) (hh : y.h = Mm.lst (x.h ++ (Mm.sample x.m b).2)) : SofarR N (N'.set k y) (k + 1) b := by
  refine ⟨by rw [List.length_set]; exact h.1, fun j z hz => ?_⟩
  by_cases e : k = j
  · subst e
    rw [hx] at hz
    injection hz with hz
    subst hz
    refine ⟨_, List.getElem?_set_self (by rw [h.1]; exact (List.getElem?_eq_some_iff.1 hx).1), hq, ?_⟩
    rw [if_pos (Nat.lt_succ_self _)]
    exact ⟨hm, hh⟩
  · obtain ⟨x', h1, h2, h3⟩ := h.2 j z hz
    refine ⟨x', by rw [List.getElem?_set_ne e]; exact h1, h2, ?_⟩
    by_cases hj : j < k
    · rw [if_pos (by omega)]; rw [if_pos hj] at h3; exact h3
    · rw [if_neg (by omega)]; rw [if_neg hj] at h3; exact h3
theorem sofarR_end {N N' : List Rn} {k : Nat} {b : Bool} (h : SofarR N N' k b) (hk : N.length ≤ k) : N'.map (·.q) = N.map (·.q) ∧ N'.map (·.m) = Mm.wmap (N.map (·.m)) b ∧ N'.map (·.h) = Mm.wheard (N.map (·.m)) (N.map (·.h)) b := by
  have key : ∀ j : Nat, (N[j]? = none ∧ N'[j]? = none) ∨ ∃ x x' : Rn, N[j]? = some x ∧ N'[j]? = some x' ∧ x'.q = x.q ∧ x'.m = (Mm.sample x.m b).1 ∧ x'.h = Mm.lst (x.h ++ (Mm.sample x.m b).2) := fun j => by
    by_cases hj : j < N.length
    · obtain ⟨x', h1, h2, h3⟩ := h.2 j _ (List.getElem?_eq_getElem hj)
      rw [if_pos (by omega)] at h3
      exact Or.inr ⟨_, x', List.getElem?_eq_getElem hj, h1, h2, h3⟩
    · exact Or.inl ⟨List.getElem?_eq_none (by omega), List.getElem?_eq_none (by rw [h.1]; omega)⟩
  refine ⟨?_, ?_, ?_⟩
  all_goals
    apply List.ext_getElem?
    intro j
  · rw [List.getElem?_map, List.getElem?_map]
    rcases key j with ⟨a, b⟩ | ⟨x, x', a, b, c, d, e⟩
    · rw [a, b]
    · rw [a, b]; exact congrArg some c
  · unfold Mm.wmap
    rw [List.getElem?_map, List.getElem?_map, List.getElem?_map]
    rcases key j with ⟨a, b⟩ | ⟨x, x', a, b, c, d, e⟩
    · rw [a, b]; rfl
    · rw [a, b]; exact congrArg some d
  · unfold Mm.wheard
    rw [List.getElem?_map, List.getElem?_zipWith, List.getElem?_map, List.getElem?_map]
    rcases key j with ⟨a, b⟩ | ⟨x, x', a, b, c, d, e⟩
    · rw [a, b]; rfl
    · rw [a, b]; exact congrArg some e
def evr (N : List Rn) (b : Bool) (k : Nat) : List Mm.Ev := Mm.wevs ((N.map (·.m)).take k) b
theorem evr_next (N : List Rn) (b : Bool) (k : Nat) (x : Rn) (hx : N[k]? = some x) : evr N b (k + 1) = evr N b k ++ (Mm.sample x.m b).2 := by
  unfold evr Mm.wevs
  rw [List.take_add_one, List.flatMap_append]
  congr 1
  rw [List.getElem?_map, hx]
  simp
theorem evr_len (N : List Rn) (b : Bool) (k : Nat) (h : N.length ≤ 8) : (evr N b k).length ≤ 24 := by
  have h1 : ∀ ms : List Mm.St, (Mm.wevs ms b).length ≤ 3 * ms.length := fun ms => by
    unfold Mm.wevs
    induction ms with
    | nil => simp
    | cons a l ih =>
      rw [List.flatMap_cons, List.length_append, List.length_cons]
      have := Mm.sample_len a b
      omega
  have := h1 ((N.map (·.m)).take k)
  unfold evr
  rw [List.length_take, List.length_map] at this
  omega
theorem evr_all (N : List Rn) (b : Bool) : evr N b N.length = Mm.wevs (N.map (·.m)) b := by
  unfold evr
  rw [List.take_of_length_le (by rw [List.length_map]; exact Nat.le_refl _)]
/-- The world and the events told so far, side by side. -/
structure Cur (w wr : World) (r gm gh cm ch : Nat) (N0 : List Rn) (tr : List Bool) (N' : List Rn) (sA : Option Addr) (cA : Nat) (E : List Mm.Ev) : Prop where
  ev : EvAt w.heap.size wr sA cA E
  ri : RI wr r gm gh cm ch N' tr
  sep : ∀ g o, sA = some ⟨g, o, none⟩ → ¬ fpr r gm gh N' g
  fp : ∀ g, fpr r gm gh N' g → fpr r gm gh N0 g ∨ w.heap.size ≤ g
  kept : Kept (fpr r gm gh N0) w wr
theorem cur_start {w wr : World} {r gm gh cm ch : Nat} {N : List Rn} {tr : List Bool} (h : RI wr r gm gh cm ch N tr) (hk : Kept (fpr r gm gh N) w wr) : Cur w wr r gm gh cm ch N tr N none 0 [] :=
  ⟨EvAt.empty _ _, h, fun g o k => (by cases k), fun g hg => Or.inl hg, hk⟩
/-- The Mac of node k sampled. -/
theorem Cur.samp {w wr w1 : World} {r gm gh cm ch : Nat} {N0 : List Rn} {tr : List Bool} {N' : List Rn} {sA : Option Addr} {cA : Nat} {E : List Mm.Ev} (h : Cur w wr r gm gh cm ch N0 tr N' sA cA E) {k : Nat} {x : Rn} (hx : N'[k]? = some x) {m : Mm.St} {F' : Nat → Prop} (hA : RAt w1 x.q F' m) (hF : ∀ g, F' g → (fun j => j = x.q ∨ j = x.qr) g ∨ wr.heap.size ≤ g) (hk : Kept (fun j => j = x.q ∨ j = x.qr) wr w1) :
    ∃ qr, Cur w w1 r gm gh cm ch N0 tr (N'.set k ⟨x.q, qr, x.s, x.c, m, x.h⟩) sA cA E := by
  obtain ⟨qr, hR, rfl⟩ := hA
  have hq : qr = x.qr ∨ wr.heap.size ≤ qr := by
    rcases hF qr (Or.inr rfl) with (e | e) | e
    · exact absurd e.symm hR.ne
    · exact Or.inl e
    · exact Or.inr e
  have hset : ∀ g, fpr r gm gh (N'.set k ⟨x.q, qr, x.s, x.c, m, x.h⟩) g → fpr r gm gh N' g ∨ wr.heap.size ≤ g := by
    rintro g ⟨a, ha⟩
    by_cases e : a = .rd k
    · subst e
      rw [bo_rd (x := ⟨x.q, qr, x.s, x.c, m, x.h⟩) (by rw [get_setN hx, if_pos rfl])] at ha
      injection ha with ha
      have ha : qr = g := ha
      rcases hq with hq | hq
      · exact Or.inl ⟨.rd k, by rw [bo_rd hx, ← hq, ha]⟩
      · exact Or.inr (by omega)
    · left
      refine ⟨a, ?_⟩
      by_cases e1 : a = .mac k
      · subst e1
        rw [bo_mac (x := ⟨x.q, qr, x.s, x.c, m, x.h⟩) (by rw [get_setN hx, if_pos rfl])] at ha
        rw [bo_mac hx]; exact ha
      · by_cases e2 : a = .ev k
        · subst e2
          rw [bo_ev (x := ⟨x.q, qr, x.s, x.c, m, x.h⟩) (by rw [get_setN hx, if_pos rfl])] at ha
          rw [bo_ev hx]; exact ha
        · rw [← bo_set (y := ⟨x.q, qr, x.s, x.c, m, x.h⟩) hx a ⟨e1, e, e2⟩]; exact ha
  refine ⟨qr, h.ev.on (fun g o e => hk.block g (h.ev.zero g o e).2.2 (fun z => h.sep g o e ?_)), h.ri.setM hx hk hR hq, fun g o e z => ?_, fun g hg => ?_, h.kept.trans hk ?_⟩
  · rcases z with z | z
    · exact ⟨.mac k, by rw [bo_mac hx, z]⟩
    · exact ⟨.rd k, by rw [bo_rd hx, z]⟩
  · rcases hset g z with z | z
    · exact h.sep g o e z
    · have := (h.ev.zero g o e).2.2
      omega
  · rcases hset g hg with z | z
    · exact h.fp g z
    · exact Or.inr (Nat.le_trans h.kept.size z)
  · rintro g (e | e)
    · exact h.fp g ⟨.mac k, by rw [bo_mac hx, e]⟩
    · exact h.fp g ⟨.rd k, by rw [bo_rd hx, e]⟩
/-- The events of all are longer. -/
theorem Cur.all {w w1 w2 : World} {r gm gh cm ch : Nat} {N0 : List Rn} {tr : List Bool} {N' : List Rn} {sA s2 : Option Addr} {cA c2 : Nat} {E E2 : List Mm.Ev} (h : Cur w w1 r gm gh cm ch N0 tr N' sA cA E) (hE : EvAt w.heap.size w2 s2 c2 E2) (hg : w1.grownBy w2 (sA.map (·.block))) (hp : ∀ g o, s2 = some ⟨g, o, none⟩ → sA = some ⟨g, o, none⟩ ∨ w1.heap.size ≤ g) :
    Cur w w2 r gm gh cm ch N0 tr N' s2 c2 E2 := by
  have hblk : ∀ g, g < w1.heap.size → (∀ o, sA ≠ some ⟨g, o, none⟩) → w2.heap[g]? = w1.heap[g]? := fun g hg' hne => hg.block g hg' (fun e => by
    cases hsA : sA with
    | none => rw [hsA] at e; cases e
    | some a =>
      have ha := h.ev.plain a hsA
      cases a with
      | mk b0 o0 sp =>
        dsimp only at ha
        subst ha
        rw [hsA] at e
        have hb : b0 = g := by simpa using e.symm
        subst hb
        exact hne o0 hsA)
  refine ⟨hE, h.ri.on hg.size (fun g hg' => hblk g (by obtain ⟨a, ha⟩ := hg'; exact h.ri.lt a g ha) (fun o e => h.sep g o e hg')), fun g o e hg' => ?_, h.fp, h.kept.trans (G := fun g => ∃ o, sA = some ⟨g, o, none⟩) ⟨hg.os, hg.tape, hg.output, hg.size, fun i hi hn => hblk i hi (fun o e => hn ⟨o, e⟩)⟩ ?_⟩
  · rcases hp g o e with z | z
    · exact h.sep g o z hg'
    · obtain ⟨a, ha⟩ := hg'
      have := h.ri.lt a g ha
      omega
  · rintro g ⟨o, e⟩
    exact Or.inr (h.ev.zero g o e).2.1
/-- What node k heard is another list, and its slice is stored. -/
theorem Cur.heard {w w2 w3 : World} {r gm gh cm ch : Nat} {N0 : List Rn} {tr : List Bool} {N' : List Rn} {sA : Option Addr} {cA : Nat} {E : List Mm.Ev} (h : Cur w w2 r gm gh cm ch N0 tr N' sA cA E) {k : Nat} {x : Rn} (hx : N'[k]? = some x) {s : Option Addr} {c : Nat} {l : List Mm.Ev} (hk : Kept (fun g => x.s.map (·.block) = some g) w2 w3) (hE : EvO w3 s c l) (hs : s.map (·.block) = x.s.map (·.block) ∨ ∃ q, s = some q ∧ w2.heap.size ≤ q.block) :
    Cur w (w3.setCell ⟨gh, k, none⟩ (.slice s l.length c)) r gm gh cm ch N0 tr (N'.set k ⟨x.q, x.qr, s, c, x.m, l⟩) sA cA E := by
  have hset : ∀ g, fpr r gm gh (N'.set k ⟨x.q, x.qr, s, c, x.m, l⟩) g → fpr r gm gh N' g ∨ w2.heap.size ≤ g := by
    rintro g ⟨a, ha⟩
    by_cases e : a = .ev k
    · subst e
      rw [bo_ev (x := ⟨x.q, x.qr, s, c, x.m, l⟩) (by rw [get_setN hx, if_pos rfl])] at ha
      rcases hs with hs | ⟨q, rfl, hl⟩
      · exact Or.inl ⟨.ev k, by rw [bo_ev hx, ← hs]; exact ha⟩
      · have : q.block = g := by simpa using ha
        exact Or.inr (by omega)
    · left
      refine ⟨a, ?_⟩
      by_cases e1 : a = .mac k
      · subst e1
        rw [bo_mac (x := ⟨x.q, x.qr, s, c, x.m, l⟩) (by rw [get_setN hx, if_pos rfl])] at ha
        rw [bo_mac hx]; exact ha
      · by_cases e2 : a = .rd k
        · subst e2
          rw [bo_rd (x := ⟨x.q, x.qr, s, c, x.m, l⟩) (by rw [get_setN hx, if_pos rfl])] at ha
          rw [bo_rd hx]; exact ha
        · rw [← bo_set (y := ⟨x.q, x.qr, s, c, x.m, l⟩) hx a ⟨e1, e2, e⟩]; exact ha
  have hk2 : Kept (fun g => x.s.map (·.block) = some g ∨ g = gh) w2 (w3.setCell ⟨gh, k, none⟩ (.slice s l.length c)) := (hk.mono (fun g hg => Or.inl hg)).trans (Kept.set (F := fun g => x.s.map (·.block) = some g ∨ g = gh) w3 ⟨gh, k, none⟩ _ (Or.inr rfl)) (fun g hg => Or.inl hg)
  have hin : ∀ g, x.s.map (·.block) = some g ∨ g = gh → fpr r gm gh N' g := by
    rintro g (e | e)
    · exact ⟨.ev k, by rw [bo_ev hx]; exact e⟩
    · exact ⟨.gh, by rw [e]; rfl⟩
  refine ⟨h.ev.on (fun g o e => hk2.block g (h.ev.zero g o e).2.2 (fun z => h.sep g o e (hin g z))), h.ri.setH hx hk hE hs, fun g o e z => ?_, fun g hg => ?_, h.kept.trans hk2 (fun g hg => h.fp g (hin g hg))⟩
  · rcases hset g z with z | z
    · exact h.sep g o e z
    · have := (h.ev.zero g o e).2.2
      omega
  · rcases hset g hg with z | z
    · exact h.fp g z
    · exact Or.inr (Nat.le_trans h.kept.size z)
theorem Cur.below {w w1 w2 : World} {r gm gh cm ch : Nat} {N0 : List Rn} {tr : List Bool} {N' : List Rn} {sA : Option Addr} {cA : Nat} {E : List Mm.Ev} (h : Cur w w1 r gm gh cm ch N0 tr N' sA cA E) (hb : Below w1.heap.size w1 w2) : Cur w w2 r gm gh cm ch N0 tr N' sA cA E :=
  ⟨h.ev.on (fun g o e => hb.block g (h.ev.zero g o e).2.2), h.ri.below hb, h.sep, h.fp, h.kept.trans (G := fun _ => False) (Kept.of_below hb) (fun g hg => hg.elim)⟩
theorem Cur.keepH {w w2 w3 : World} {r gm gh cm ch : Nat} {N0 : List Rn} {tr : List Bool} {N' : List Rn} {sA : Option Addr} {cA : Nat} {E : List Mm.Ev} (h : Cur w w2 r gm gh cm ch N0 tr N' sA cA E) {k : Nat} {x : Rn} (hx : N'[k]? = some x) (hk : Kept (fun g => x.s.map (·.block) = some g) w2 w3) :
    w3.cell? ⟨r, 1, none⟩ = some (.slice (some ⟨gh, 0, none⟩) N'.length ch) ∧ w3.cell? ⟨gh, k, none⟩ = some (.slice x.s x.h.length x.c) ∧ w3.frozen? ⟨gh, k, none⟩ = false := by
  have hb : ∀ a g, bo r gm gh N' a = some g → a ≠ .ev k → w3.heap[g]? = w2.heap[g]? := fun a g ha h1 => hk.block g (h.ri.lt a g ha) (fun e => h1 (h.ri.inj _ _ _ ha (by rw [bo_ev hx]; exact e)))
  have e1 := hb .hd r rfl (by intro k; cases k)
  have e2 := hb .gh gh rfl (by intro k; cases k)
  have hr := e1.trans h.ri.head
  obtain ⟨c, h1, h2⟩ := h.ri.hs
  have hg := e2.trans h1
  exact ⟨by rw [cell_of_row _ _ _ _ _ _ hr]; rfl, by rw [cell_of_row _ _ _ _ _ _ hg]; exact h2 k x hx, frozen_of_row _ _ _ _ _ hg⟩
/-- The same, its heard list laid anew, where node k stands in the list already. -/
theorem Cur.heard2 {w w2 w3 : World} {r gm gh cm ch : Nat} {N0 : List Rn} {tr : List Bool} {N' : List Rn} {sA : Option Addr} {cA : Nat} {E : List Mm.Ev} {k : Nat} {x : Rn} (h : Cur w w2 r gm gh cm ch N0 tr (N'.set k x) sA cA E) (hkl : k < N'.length) {s : Option Addr} {c n : Nat} {l : List Mm.Ev} (hn : n = l.length) (hk : Kept (fun g => x.s.map (·.block) = some g) w2 w3) (hE : EvO w3 s c l) (hs : s.map (·.block) = x.s.map (·.block) ∨ ∃ q, s = some q ∧ w2.heap.size ≤ q.block) :
    Cur w (w3.setCell ⟨gh, k, none⟩ (.slice s n c)) r gm gh cm ch N0 tr (N'.set k ⟨x.q, x.qr, s, c, x.m, l⟩) sA cA E := by
  have := h.heard (List.getElem?_set_self hkl) hk hE hs
  rw [List.set_set] at this
  rw [hn]
  exact this
end Go.Proofs.YthkaekpoicodeaaGreatDoor
/- Law 8's own world of the document's nodes: what all drive. -/
namespace Go.Proofs.YthkaekpoicodeaaGreatDoor
open Go.RowKit
set_option linter.unusedVariables false
theorem RI.c0 {w : World} {r gm gh cm ch : Nat} {N : List Rn} {tr : List Bool} (h : RI w r gm gh cm ch N tr) : w.cell? ⟨r, 0, none⟩ = some (.slice (some ⟨gm, 0, none⟩) N.length cm) := by rw [cell_of_row _ _ _ _ _ _ h.head]; rfl
theorem RI.c1 {w : World} {r gm gh cm ch : Nat} {N : List Rn} {tr : List Bool} (h : RI w r gm gh cm ch N tr) : w.cell? ⟨r, 1, none⟩ = some (.slice (some ⟨gh, 0, none⟩) N.length ch) := by rw [cell_of_row _ _ _ _ _ _ h.head]; rfl
theorem RI.c2 {w : World} {r gm gh cm ch : Nat} {N : List Rn} {tr : List Bool} (h : RI w r gm gh cm ch N tr) : w.cell? ⟨r, 2, none⟩ = some (.string ⟨(Bm.row tr).toArray⟩) ∧ w.frozen? ⟨r, 2, none⟩ = false := ⟨by rw [cell_of_row _ _ _ _ _ _ h.head]; rfl, frozen_of_row _ _ _ _ _ h.head⟩
theorem RI.cm {w : World} {r gm gh cm ch : Nat} {N : List Rn} {tr : List Bool} (h : RI w r gm gh cm ch N tr) {i : Nat} {x : Rn} (hx : N[i]? = some x) : w.cell? ⟨gm, i, none⟩ = some (bptr x.q) := by
  obtain ⟨c, h1, h2⟩ := h.ms
  rw [cell_of_row _ _ _ _ _ _ h1]
  exact h2 i x hx
theorem RI.ch {w : World} {r gm gh cm ch : Nat} {N : List Rn} {tr : List Bool} (h : RI w r gm gh cm ch N tr) {i : Nat} {x : Rn} (hx : N[i]? = some x) : w.cell? ⟨gh, i, none⟩ = some (.slice x.s x.h.length x.c) ∧ w.frozen? ⟨gh, i, none⟩ = false := by
  obtain ⟨c, h1, h2⟩ := h.hs
  exact ⟨by rw [cell_of_row _ _ _ _ _ _ h1]; exact h2 i x hx, frozen_of_row _ _ _ _ _ h1⟩
theorem RI.drew {w : World} {r gm gh cm ch : Nat} {N : List Rn} {tr : List Bool} (h : RI w r gm gh cm ch N tr) : RI w.drew r gm gh cm ch N tr := h.below ((Below.refl _ _).drew)
/-- The trace is one bit longer. -/
theorem RI.setT {w : World} {r gm gh cm ch : Nat} {N : List Rn} {tr : List Bool} (h : RI w r gm gh cm ch N tr) (tr' : List Bool) : RI (w.setCell ⟨r, 2, none⟩ (.string ⟨(Bm.row tr').toArray⟩)) r gm gh cm ch N tr' := by
  have oth : ∀ a g, bo r gm gh N a = some g → a ≠ .hd → (w.setCell ⟨r, 2, none⟩ (.string ⟨(Bm.row tr').toArray⟩)).heap[g]? = w.heap[g]? := fun a g ha h1 => heap_setCell_other _ ⟨r, 2, none⟩ g _ (fun e => h1 (h.inj _ _ _ ha (by rw [e]; rfl)))
  obtain ⟨c1, m1, m2⟩ := h.ms
  obtain ⟨c2, n1, n2⟩ := h.hs
  have hz : (w.setCell ⟨r, 2, none⟩ (.string ⟨(Bm.row tr').toArray⟩)).heap.size = w.heap.size := by simp
  refine ⟨?_, ⟨c1, (oth .gm gm rfl (by intro k; cases k)).trans m1, m2⟩, ⟨c2, (oth .gh gh rfl (by intro k; cases k)).trans n1, n2⟩, fun x hx => ?_, fun x hx => ?_, h.inj, fun a g ha => by rw [hz]; exact h.lt a g ha, h.lo, h.hi⟩
  · rw [heap_setCell_same _ _ _ _ _ _ h.head]; rfl
  · obtain ⟨i, hi⟩ := mem_idx hx
    exact (h.mac x hx).on (oth (.mac i) _ (bo_mac hi) (by intro k; cases k)) (oth (.rd i) _ (bo_rd hi) (by intro k; cases k))
  · obtain ⟨i, hi⟩ := mem_idx hx
    exact (h.ev x hx).on (by rw [hz]; exact Nat.le_refl _) (fun q hq => oth (.ev i) _ (by rw [bo_ev hi, hq]; rfl) (by intro k; cases k))
theorem all_succ (N : List Rn) (k : Nat) (x : Rn) (h : N[k]? = some x) : ((N.take (k + 1)).map (·.m)).all Mm.drive = (((N.take k).map (·.m)).all Mm.drive && Mm.drive x.m) := by
  rw [List.take_add_one, h, List.map_append, List.all_append]
  simp
set_option maxRecDepth 100000 in
set_option maxHeartbeats 4000000 in
theorem rstep_any (w : World) (r gm gh cm ch : Nat) (N : List Rn) (tr : List Bool) (fl : Bool) (h : RI w r gm gh cm ch N tr) (hl : tr.length ≤ 100000) (h100 : ∀ x ∈ N, x.h.length ≤ 100) (b : Bool) (hb : b = (((N.map (·.m)).all Mm.drive) != fl)) :
    Calls Tryz.prog 12 #[bptr r, .bool fl] w fun e w' => ∃ s cap N', e = .returned (.slice s (Mm.wevs (N.map (·.m)) b).length cap) ∧ SofarR N N' N.length b ∧ Cur w w' r gm gh cm ch N (tr ++ [b]) N' s cap (Mm.wevs (N.map (·.m)) b) := by
  have HW : Hid (RI w r gm gh cm ch N tr) := h
  obtain ⟨hlo, hhi⟩ : 1 ≤ N.length ∧ N.length ≤ 8 := ⟨h.lo, h.hi⟩
  obtain ⟨n, hn⟩ : ∃ n, N.length = n := ⟨_, rfl⟩
  have HNn : Hid (N.length = n) := hn
  have HB : Hid (b = (((N.map (·.m)).all Mm.drive) != fl)) := hb
  have H100 : Hid (∀ x ∈ N, x.h.length ≤ 100) := h100
  have HEv : Hid (evr N b N.length = Mm.wevs (N.map (·.m)) b) := evr_all N b
  have HEl : Hid (∀ b k, (evr N b k).length ≤ 24) := fun b k => evr_len N b k (by rw [hn]; rw [hn] at hhi; exact hhi)
  rw [← HEv.out, hn]
  rw [hn] at hlo hhi
  clear h hn hb HEv h100
  go_enter Tryz.func12, Tryz.ntmps12
  go_wp2_with fail
  go_loopw [6, 5] (fun i a wr => ∃ k : Nat, k ≤ n ∧ i = .int .i64 k ∧ a = .bool (((N.take k).map (·.m)).all Mm.drive) ∧ Hid (Below w.heap.size w wr)) (fun i _ _ => n - (intOf i).toNat)
  case atStart => exact ⟨0, Nat.zero_le _, rfl, rfl, Below.refl _ _⟩
  case round =>
    obtain ⟨k, hk, rfl, rfl, HBl⟩ := hrel
    have HR : Hid (RI wr r gm gh cm ch N tr) := HW.out.below HBl.out
    have c0 : wr.cell? ⟨r, 0, none⟩ = some (.slice (some ⟨gm, 0, none⟩) n cm) := by have := HR.out.c0; rw [HNn.out] at this; exact this
    by_cases hlt : k < n
    · obtain ⟨x, hx⟩ : ∃ x, N[k]? = some x := ⟨_, List.getElem?_eq_getElem (by rw [HNn.out]; exact hlt)⟩
      have cmk := HR.out.cm hx
      have HSu : Hid (((N.take (k + 1)).map (·.m)).all Mm.drive = (((N.take k).map (·.m)).all Mm.drive && Mm.drive x.m)) := all_succ N k x hx
      have HD : Hid (Calls Tryz.prog 30 #[bptr x.q] wr fun e w' => e = .returned (.int .u8 (if Mm.drive x.m then 49 else 48)) ∧ Below wr.heap.size wr w') := rat_drive wr x.q _ x.m ⟨x.qr, HR.out.mac x (List.mem_of_getElem? hx), rfl⟩
      clear hx
      generalize ((N.take k).map (·.m)).all Mm.drive = I0 at *
      cases I0 with
      | false =>
        go_wp2
        go_roundw
        case rel => exact ⟨k + 1, by omega, rfl, by rw [HSu.out]; rfl, HBl⟩
        case measure => simp only [intOf]; omega
      | true =>
        cases hd : Mm.drive x.m with
        | false =>
          rw [hd] at HD HSu
          go_wp2_with fail
          refine HD.out.mono ?_
          rintro e w2 ⟨rfl, hb2⟩
          have HB2 : Hid (Below w.heap.size w w2) := below_join HBl.out hb2
          clear hb2 HD c0 cmk
          go_wp2
          go_roundw
          case rel => exact ⟨k + 1, by omega, rfl, by rw [HSu.out]; rfl, HB2⟩
          case measure => simp only [intOf]; omega
        | true =>
          rw [hd] at HD HSu
          go_wp2_with fail
          refine HD.out.mono ?_
          rintro e w2 ⟨rfl, hb2⟩
          have HB2 : Hid (Below w.heap.size w w2) := below_join HBl.out hb2
          clear hb2 HD c0 cmk
          go_wp2
          go_roundw
          case rel => exact ⟨k + 1, by omega, rfl, by rw [HSu.out]; rfl, HB2⟩
          case measure => simp only [intOf]; omega
    · have ek : N.take k = N := List.take_of_length_le (by rw [HNn.out]; omega)
      rw [ek]
      have hI : ((N.map (·.m)).all Mm.drive != fl) = b := HB.out.symm
      generalize (N.map (·.m)).all Mm.drive = I1 at hI ⊢
      clear HB ek
      have c2 := HR.out.c2.1
      have f2 := HR.out.c2.2
      have hTs : (ByteArray.mk (Bm.row tr).toArray).size = tr.length := by show (Bm.row tr).toArray.size = _; simp [Bm.row]
      have HCat : Hid (∀ b, ByteArray.mk (Bm.row tr).toArray ++ ByteArray.mk #[bsg b] = ByteArray.mk (Bm.row (tr ++ [b])).toArray) := fun b => by
        have := cat_row tr [b]
        cases b <;> exact this
      generalize ByteArray.mk (Bm.row tr).toArray = T at c2 hTs HCat
      have hT9 : T.size ≤ 100000 := by omega
      have c2' : ∀ o, (wr.alloc o).cell? ⟨r, 2, none⟩ = some (.string T) := fun o => ((Below.refl wr.heap.size wr).alloc (Nat.le_refl _) o).cell (p := ⟨r, 2, none⟩) (HR.out.lt .hd r rfl) |>.trans c2
      have f2' : ∀ o, (wr.alloc o).frozen? ⟨r, 2, none⟩ = false := fun o => (frozen_blk (((Below.refl wr.heap.size wr).alloc (Nat.le_refl _) o).block r (HR.out.lt .hd r rfl))).trans f2
      have hc0 : (convert 74 9 (.slice (some ⟨wr.heap.size, 0, none⟩) 1 1)).run Tryz.prog (wr.alloc (.cells #[.int .u8 48] 5)).drew = .ok (.string ⟨#[48]⟩) (wr.alloc (.cells #[.int .u8 48] 5)).drew :=
        Lw.run_conv_row (P := Tryz.prog) (l := [48]) (t := 5) (show (wr.alloc (.cells #[.int .u8 48] 5)).drew.heap[wr.heap.size]? = some (.cells (Bm.cellsOf [48]).toArray 5 (0, 0)) from heap_alloc_new wr _) 74 5 9 Tryz.underlying74 Tryz.underlying5 Tryz.underlying9 0 1 1 (by decide) [48] rfl
      have hc1 : (convert 74 9 (.slice (some ⟨wr.heap.size, 0, none⟩) 1 1)).run Tryz.prog (wr.alloc (.cells #[.int .u8 49] 5)).drew = .ok (.string ⟨#[49]⟩) (wr.alloc (.cells #[.int .u8 49] 5)).drew :=
        Lw.run_conv_row (P := Tryz.prog) (l := [49]) (t := 5) (show (wr.alloc (.cells #[.int .u8 49] 5)).drew.heap[wr.heap.size]? = some (.cells (Bm.cellsOf [49]).toArray 5 (0, 0)) from heap_alloc_new wr _) 74 5 9 Tryz.underlying74 Tryz.underlying5 Tryz.underlying9 0 1 1 (by decide) [49] rfl
      have HEnd : Hid (∀ (o : Obj) (b : Bool), RI ((wr.alloc o).drew.setCell ⟨r, 2, none⟩ (.string (T ++ ByteArray.mk #[bsg b]))) r gm gh cm ch N (tr ++ [b]) ∧ Kept (fpr r gm gh N) w ((wr.alloc o).drew.setCell ⟨r, 2, none⟩ (.string (T ++ ByteArray.mk #[bsg b])))) := fun o b => by
        have hba : Below wr.heap.size wr (wr.alloc o).drew := ((Below.refl _ _).alloc (Nat.le_refl _) _).drew
        rw [HCat.out b]
        exact ⟨(HR.out.below hba).setT (tr ++ [b]), (Kept.of_below (below_join HBl.out hba)).trans (Kept.set (F := fpr r gm gh N) (wr.alloc o).drew ⟨r, 2, none⟩ _ ⟨.hd, rfl⟩) (fun g hg => Or.inl hg)⟩
      clear hTs HCat
      cases b with
      | false =>
        have hI2 : (I1 == fl) = true := by cases I1 <;> cases fl <;> first | rfl | cases hI
        have hI3 : I1 = fl := by cases I1 <;> cases fl <;> first | rfl | cases hI
        subst hI3
        go_wp2_with fail
        go_cut [] from 35 (fun wx => Hid (RI wx r gm gh cm ch N (tr ++ [false])) ∧ Hid (Kept (fpr r gm gh N) w wx))
        case first =>
          go_region
          all_goals
            go_wp2_with fail
            go_meet
            case rel => exact HEnd.out _ false
        case rest =>
          obtain ⟨HRc, HKc⟩ := hcut
          have HC0 : Hid (Cur w wc r gm gh cm ch N (tr ++ [false]) N none 0 []) := cur_start HRc.out HKc.out
          clear c2 f2 c2' f2' hc0 hc1 HEnd c0 HR hI hT9 HRc HKc HBl
          go_wp2_with fail
          go_loopw [9, 8] (fun i a wr => ∃ (k : Nat) (sA : Option Addr) (cA m : Nat) (N' : List Rn), k ≤ n ∧ i = .int .i64 k ∧ a = .slice sA m cA ∧ Hid (m = (evr N false k).length) ∧ Hid (SofarR N N' k false) ∧ Hid (Cur w wr r gm gh cm ch N (tr ++ [false]) N' sA cA (evr N false k))) (fun i _ _ => n - (intOf i).toNat)
          case atStart => exact ⟨0, none, 0, 0, N, Nat.zero_le _, rfl, rfl, rfl, sofarR_start N false, HC0⟩
          case round =>
            clear HC0
            obtain ⟨k, sA, cA, m, N', hk, rfl, rfl, Hm, HSo, HCr⟩ := hrel
            have hN' : N'.length = n := HSo.out.1.trans HNn.out
            have c0 : wr.cell? ⟨r, 0, none⟩ = some (.slice (some ⟨gm, 0, none⟩) n cm) := by have := HCr.out.ri.c0; rw [hN'] at this; exact this
            by_cases hlt : k < n
            · obtain ⟨x, hx⟩ : ∃ x, N[k]? = some x := ⟨_, List.getElem?_eq_getElem (by rw [HNn.out]; exact hlt)⟩
              obtain ⟨qr0, s0, ca0, h0⟩ := sofarR_at HSo.out hx
              have cmk := HCr.out.ri.cm h0
              have hx100 : x.h.length ≤ 100 := H100.out x (List.mem_of_getElem? hx)
              have HX : Hid (N[k]? = some x) := hx
              have H0 : Hid (N'[k]? = some ⟨x.q, qr0, s0, ca0, x.m, x.h⟩) := h0
              have HSm : Hid (Calls Tryz.prog 31 #[bptr x.q, .int .u8 48] wr fun e w' => ∃ s cap, e = .returned (.slice s (Mm.sample x.m false).2.length cap) ∧ EvAt wr.heap.size w' s cap (Mm.sample x.m false).2 ∧ ∃ F', RAt w' x.q F' (Mm.sample x.m false).1 ∧ (∀ g, F' g → (fun j => j = x.q ∨ j = qr0) g ∨ wr.heap.size ≤ g) ∧ (∀ g o, s = some ⟨g, o, none⟩ → ¬ F' g) ∧ Kept (fun j => j = x.q ∨ j = qr0) wr w') :=
                rat_sample wr x.q _ x.m (bsg false) ⟨qr0, HCr.out.ri.mac _ (List.mem_of_getElem? h0), rfl⟩
              have hl3 : (Mm.sample x.m false).2.length ≤ 3 := Mm.sample_len _ _
              have HL3 : Hid ((evr N false k).length + (Mm.sample x.m false).2.length ≤ 1000) := by show _ ≤ _; have := HEl.out false k; omega
              have HEn : Hid (evr N false (k + 1) = evr N false k ++ (Mm.sample x.m false).2) := evr_next N false k x hx
              clear hx h0
              go_wp2_with fail
              refine HSm.out.mono ?_
              rintro e w1 ⟨s2, cap2, rfl, hE1, F', hA1, hF1, hd1, hK1⟩
              obtain ⟨qr1, hC1⟩ := HCr.out.samp H0.out hA1 hF1 hK1
              have HC1 : Hid (Cur w w1 r gm gh cm ch N (tr ++ [false]) (N'.set k ⟨x.q, qr1, s0, ca0, (Mm.sample x.m false).1, x.h⟩) sA cA (evr N false k)) := hC1
              have HE1 : Hid (EvAt wr.heap.size w1 s2 cap2 (Mm.sample x.m false).2) := hE1
              have HZ1 : Hid (wr.heap.size ≤ w1.heap.size) := hK1.size
              have HZ0 : Hid (w.heap.size ≤ wr.heap.size) := HCr.out.kept.size
              have HlA : Hid (∀ g o, sA = some ⟨g, o, none⟩ → g < wr.heap.size) := fun g o e => (HCr.out.ev.zero g o e).2.2
              have H1 : Hid ((N'.set k ⟨x.q, qr1, s0, ca0, (Mm.sample x.m false).1, x.h⟩)[k]? = some ⟨x.q, qr1, s0, ca0, (Mm.sample x.m false).1, x.h⟩) := List.getElem?_set_self (by rw [hN']; exact hlt)
              obtain ⟨l2, hl2⟩ : ∃ l2, (Mm.sample x.m false).2.length = l2 := ⟨_, rfl⟩
              have Hl2 : Hid (l2 = (Mm.sample x.m false).2.length) := hl2.symm
              rw [hl2] at hl3 ⊢
              clear hE1 hA1 hF1 hd1 hK1 hC1 HCr HSm c0 cmk hl2
              go_wp2_with (refine wpList_append_ev rfl (.tmp 64) (.tmp 65) rfl (B := w.heap.size) (B2 := wr.heap.size) (s := sA) (s2 := s2) (n := m) (n2 := l2) (cap := cA) (cap2 := cap2) (l := evr N false k) (l2 := (Mm.sample x.m false).2) rfl rfl Hm.out Hl2.out HC1.out.ev HE1.out (Nat.le_trans HZ0.out HZ1.out) HL3.out ?_; intro s3 c3 w2 hE2 hg2 hp2)
              have HC2 : Hid (Cur w w2 r gm gh cm ch N (tr ++ [false]) (N'.set k ⟨x.q, qr1, s0, ca0, (Mm.sample x.m false).1, x.h⟩) s3 c3 (evr N false (k + 1))) := by rw [HEn.out]; exact HC1.out.all hE2 hg2 hp2
              have HT2 : Hid (EvAt wr.heap.size w2 s2 cap2 (Mm.sample x.m false).2) := HE1.out.on (fun g o e => hg2.block g (HE1.out.zero g o e).2.2 (fun z => by
                have hB := (HE1.out.zero g o e).2.1
                cases hsA : sA with
                | none => rw [hsA] at z; cases z
                | some a =>
                  have ha := HC1.out.ev.plain a hsA
                  cases a with
                  | mk b0 o0 sp =>
                    dsimp only at ha
                    subst ha
                    rw [hsA] at z
                    have hb : b0 = g := by simpa using z.symm
                    have := HlA.out b0 o0 hsA
                    omega))
              have Hm2 : Hid (m + l2 = (evr N false (k + 1)).length) := by show _ = _; rw [HEn.out, List.length_append, ← Hm.out, ← Hl2.out]
              clear hE2 hg2 hp2 HC1 HE1 HlA HZ1 HZ0
              have hN2 : (N'.set k (⟨x.q, qr1, s0, ca0, (Mm.sample x.m false).1, x.h⟩ : Rn)).length = n := by rw [List.length_set]; exact hN'
              have hkN : k < N'.length := by rw [hN']; exact hlt
              have hb4 : Below w2.heap.size w2 w2.drew := (Below.refl _ _).drew
              have HC4 : Hid (Cur w w2.drew r gm gh cm ch N (tr ++ [false]) (N'.set k ⟨x.q, qr1, s0, ca0, (Mm.sample x.m false).1, x.h⟩) s3 c3 (evr N false (k + 1))) := HC2.out.below hb4
              have HT4 : Hid (EvAt wr.heap.size w2.drew s2 cap2 (Mm.sample x.m false).2) := HT2.out.on (fun g o e => hb4.block g (HT2.out.zero g o e).2.2)
              obtain ⟨c1, chk, fhk⟩ := HC2.out.keepH H1.out (Kept.refl _ _)
              rw [hN2] at c1
              have chk' : w2.cell? ⟨gh, k, none⟩ = some (.slice s0 x.h.length ca0) := chk
              have HE4 : Hid (EvO w2.drew s0 ca0 x.h) := HC4.out.ri.ev _ (List.mem_of_getElem? H1.out)
              have HKp : Hid (∀ w5, Kept (fun g => s0.map (·.block) = some g) w2.drew w5 → w5.cell? ⟨r, 1, none⟩ = some (.slice (some ⟨gh, 0, none⟩) n ch) ∧ w5.cell? ⟨gh, k, none⟩ = some (.slice s0 x.h.length ca0) ∧ w5.frozen? ⟨gh, k, none⟩ = false) := fun w5 hk5 => by
                have := HC4.out.keepH H1.out hk5
                rw [hN2] at this
                exact this
              have HLl : Hid (x.h.length + (Mm.sample x.m false).2.length ≤ 1000) := by show _ ≤ _; have := Hl2.out; omega
              have hltI : (k : Int) < (n : Int) := by omega
              clear chk hb4
              go_wp2_with fail
              go_cut [] from 67 to 81 (fun wx => ∃ s4 c4, Hid (Cur w wx r gm gh cm ch N (tr ++ [false]) (N'.set k ⟨x.q, qr1, s4, c4, (Mm.sample x.m false).1, x.h ++ (Mm.sample x.m false).2⟩) s3 c3 (evr N false (k + 1))))
              case first =>
                go_region_law (refine step_append_o rfl (.tmp 78) (.tmp 79) rfl (B2 := wr.heap.size) (s := s0) (s2 := s2) (n := x.h.length) (n2 := l2) (c := ca0) (cap2 := cap2) (l := x.h) (l2 := (Mm.sample x.m false).2) rfl rfl rfl Hl2.out HE4.out HT4.out HLl.out ?_; intro s4 c4 w5 hE5 hk5 hs5; obtain ⟨g1, g2, g3⟩ := HKp.out w5 hk5; have HC5 : Hid (Cur w (w5.setCell ⟨gh, k, none⟩ (.slice s4 (x.h.length + l2) c4)) r gm gh cm ch N (tr ++ [false]) (N'.set k ⟨x.q, qr1, s4, c4, (Mm.sample x.m false).1, x.h ++ (Mm.sample x.m false).2⟩) s3 c3 (evr N false (k + 1))) := HC4.out.heard2 hkN (by rw [List.length_append, ← Hl2.out]) hk5 hE5 (hs5.elim (fun e => Or.inl (by rw [e])) (fun e => Or.inr ⟨_, e, Nat.le_refl _⟩)); clear hE5 hk5 hs5)
                all_goals
                  go_wp2_with fail
                  go_meet
                  case rel => exact ⟨s4, c4, HC5⟩
              case rest =>
                obtain ⟨s4, c4, HC5⟩ := hcut
                have hN5 : (N'.set k (⟨x.q, qr1, s4, c4, (Mm.sample x.m false).1, x.h ++ (Mm.sample x.m false).2⟩ : Rn)).length = n := by rw [List.length_set]; exact hN'
                have h5 : (N'.set k (⟨x.q, qr1, s4, c4, (Mm.sample x.m false).1, x.h ++ (Mm.sample x.m false).2⟩ : Rn))[k]? = some ⟨x.q, qr1, s4, c4, (Mm.sample x.m false).1, x.h ++ (Mm.sample x.m false).2⟩ := List.getElem?_set_self hkN
                obtain ⟨d1, dhk, dfk⟩ := HC5.out.keepH h5 (Kept.refl _ _)
                obtain ⟨L, hL⟩ : ∃ L, (x.h ++ (Mm.sample x.m false).2).length = L := ⟨_, rfl⟩
                have HLe : Hid ((x.h ++ (Mm.sample x.m false).2).length = L) := hL
                have hLb : L ≤ 103 := by rw [← hL, List.length_append, ← Hl2.out]; omega
                have dhk' : wc.cell? ⟨gh, k, none⟩ = some (.slice s4 L c4) := by rw [← hL]; exact dhk
                rw [hN5] at d1
                have hE5 : EvO wc s4 c4 (x.h ++ (Mm.sample x.m false).2) := HC5.out.ri.ev _ (List.mem_of_getElem? h5)
                have HH5 : Hid ((N'.set k (⟨x.q, qr1, s4, c4, (Mm.sample x.m false).1, x.h ++ (Mm.sample x.m false).2⟩ : Rn))[k]? = some ⟨x.q, qr1, s4, c4, (Mm.sample x.m false).1, x.h ++ (Mm.sample x.m false).2⟩) := h5
                clear dhk hL c1 chk' fhk HC4 HT4 HE4 HKp HLl h5
                by_cases hbig : 100 < L
                · obtain ⟨g, o, rfl⟩ : ∃ g o, s4 = some ⟨g, o, none⟩ := by
                    rcases hE5.2.2 with ⟨_, z⟩ | ⟨g, o, e, _⟩
                    · have z1 := hE5.1; have z2 := HLe.out; omega
                    · exact ⟨g, o, e⟩
                  have hcL : L ≤ c4 := by have z1 := hE5.1; have z2 := HLe.out; omega
                  have hsl : ∀ W, (Instr.slice 43 (.slice (some ⟨g, o, none⟩) L c4) (some (.int .i64 ((L : Int) - 100))) none none).run Tryz.prog W = .ok (.slice (some ⟨g, o + (L - 100) * 6, none⟩) 100 (c4 - (L - 100))) W := fun W => by
                    have := run_sliceO (P := Tryz.prog) 43 60 6 Tryz.underlying43 evInfo1 g o L c4 ((L : Int) - 100) (L - 100) (by omega) (by omega) (by omega) hcL W
                    rw [show L - (L - 100) = 100 by omega] at this
                    exact this
                  have HE6 : Hid (EvO wc (some ⟨g, o + (L - 100) * 6, none⟩) (c4 - (L - 100)) ((x.h ++ (Mm.sample x.m false).2).drop (L - 100))) := hE5.cut (L - 100) (by rw [HLe.out]; omega)
                  have HLs : Hid (Mm.lst (x.h ++ (Mm.sample x.m false).2) = (x.h ++ (Mm.sample x.m false).2).drop (L - 100)) := by show _ = _; unfold Mm.lst; rw [HLe.out]
                  have HD100 : Hid (100 = ((x.h ++ (Mm.sample x.m false).2).drop (L - 100)).length) := by show _ = _; rw [List.length_drop, HLe.out]; omega
                  have hslw : ∀ W, (Instr.slice 43 (.slice (some ⟨g, o, none⟩) L c4) (some (.int .i64 (IntKind.i64.wrap ((L : Int) - 100)))) none none).run Tryz.prog W = .ok (.slice (some ⟨g, o + (L - 100) * 6, none⟩) 100 (c4 - (L - 100))) W := fun W => by
                    rw [show IntKind.i64.wrap ((L : Int) - 100) = (L : Int) - 100 by rw [IntKind.wrap_i64]; omega]
                    exact hsl W
                  have hLI : (L : Int) ≤ 103 := by omega
                  have hLJ : 100 < (L : Int) := by omega
                  clear hE5
                  go_wp2_with fail
                  refine Lw.region_tail 23 (by kernel_rfl) (by kernel_rfl) ?_
                  intro w7 hw7
                  have hb7 : Below wc.heap.size wc w7 := by rw [hw7]; exact (Below.refl _ _).drew
                  have HC7 : Hid (Cur w (w7.setCell ⟨gh, k, none⟩ (.slice (some ⟨g, o + (L - 100) * 6, none⟩) 100 (c4 - (L - 100)))) r gm gh cm ch N (tr ++ [false]) (N'.set k ⟨x.q, qr1, some ⟨g, o + (L - 100) * 6, none⟩, c4 - (L - 100), (Mm.sample x.m false).1, (x.h ++ (Mm.sample x.m false).2).drop (L - 100)⟩) s3 c3 (evr N false (k + 1))) :=
                    (HC5.out.below hb7).heard2 hkN HD100.out (Kept.refl _ _) (HE6.out.on hb7.size (fun q e => hb7.block _ (HE6.out.lt q e).1)) (Or.inl rfl)
                  have e1 : w7.cell? ⟨r, 1, none⟩ = some (.slice (some ⟨gh, 0, none⟩) n ch) := by rw [hw7]; exact d1
                  have e2 : w7.cell? ⟨gh, k, none⟩ = some (.slice (some ⟨g, o, none⟩) L c4) := by rw [hw7]; exact dhk'
                  have e3 : w7.frozen? ⟨gh, k, none⟩ = false := by rw [hw7]; exact dfk
                  clear hw7 hb7 d1 dhk' dfk HC5 HE6
                  simp only [List.take_succ_cons, List.take_zero, List.drop_succ_cons, List.drop_zero]
                  repeat (first | still_step)
                  refine wpStill_nil ?_
                  go_wp2
                  go_roundw
                  case rel => exact ⟨k + 1, s3, c3, m + l2, _, by omega, rfl, rfl, Hm2, sofarR_next HSo.out HX.out ⟨x.q, qr1, some ⟨g, o + (L - 100) * 6, none⟩, c4 - (L - 100), (Mm.sample x.m false).1, (x.h ++ (Mm.sample x.m false).2).drop (L - 100)⟩ rfl rfl HLs.out.symm, HC7⟩
                  case measure => simp only [intOf]; omega
                · have HLs : Hid (Mm.lst (x.h ++ (Mm.sample x.m false).2) = x.h ++ (Mm.sample x.m false).2) := Mm.lst_id (by rw [HLe.out]; omega)
                  clear hE5
                  go_wp2
                  go_roundw
                  case rel => exact ⟨k + 1, s3, c3, m + l2, _, by omega, rfl, rfl, Hm2, sofarR_next HSo.out HX.out ⟨x.q, qr1, s4, c4, (Mm.sample x.m false).1, x.h ++ (Mm.sample x.m false).2⟩ rfl rfl HLs.out.symm, HC5⟩
                  case measure => simp only [intOf]; omega
            · obtain rfl : k = n := by omega
              go_wp2
              go_ret
              exact ⟨sA, cA, N', by rw [← Hm.out]; rfl, HSo.out, HCr.out⟩
      | true =>
        have hI2 : (I1 == fl) = false := by cases I1 <;> cases fl <;> first | rfl | cases hI
        have hI3 : ¬ I1 = fl := by intro e; rw [e] at hI; cases fl <;> cases hI
        go_wp2_with fail
        go_cut [] from 35 (fun wx => Hid (RI wx r gm gh cm ch N (tr ++ [true])) ∧ Hid (Kept (fpr r gm gh N) w wx))
        case first =>
          go_region
          all_goals
            go_wp2_with fail
            go_meet
            case rel => exact HEnd.out _ true
        case rest =>
          obtain ⟨HRc, HKc⟩ := hcut
          have HC0 : Hid (Cur w wc r gm gh cm ch N (tr ++ [true]) N none 0 []) := cur_start HRc.out HKc.out
          clear c2 f2 c2' f2' hc0 hc1 HEnd c0 HR hI hT9 HRc HKc HBl
          go_wp2_with fail
          go_loopw [9, 8] (fun i a wr => ∃ (k : Nat) (sA : Option Addr) (cA m : Nat) (N' : List Rn), k ≤ n ∧ i = .int .i64 k ∧ a = .slice sA m cA ∧ Hid (m = (evr N true k).length) ∧ Hid (SofarR N N' k true) ∧ Hid (Cur w wr r gm gh cm ch N (tr ++ [true]) N' sA cA (evr N true k))) (fun i _ _ => n - (intOf i).toNat)
          case atStart => exact ⟨0, none, 0, 0, N, Nat.zero_le _, rfl, rfl, rfl, sofarR_start N true, HC0⟩
          case round =>
            clear HC0
            obtain ⟨k, sA, cA, m, N', hk, rfl, rfl, Hm, HSo, HCr⟩ := hrel
            have hN' : N'.length = n := HSo.out.1.trans HNn.out
            have c0 : wr.cell? ⟨r, 0, none⟩ = some (.slice (some ⟨gm, 0, none⟩) n cm) := by have := HCr.out.ri.c0; rw [hN'] at this; exact this
            by_cases hlt : k < n
            · obtain ⟨x, hx⟩ : ∃ x, N[k]? = some x := ⟨_, List.getElem?_eq_getElem (by rw [HNn.out]; exact hlt)⟩
              obtain ⟨qr0, s0, ca0, h0⟩ := sofarR_at HSo.out hx
              have cmk := HCr.out.ri.cm h0
              have hx100 : x.h.length ≤ 100 := H100.out x (List.mem_of_getElem? hx)
              have HX : Hid (N[k]? = some x) := hx
              have H0 : Hid (N'[k]? = some ⟨x.q, qr0, s0, ca0, x.m, x.h⟩) := h0
              have HSm : Hid (Calls Tryz.prog 31 #[bptr x.q, .int .u8 49] wr fun e w' => ∃ s cap, e = .returned (.slice s (Mm.sample x.m true).2.length cap) ∧ EvAt wr.heap.size w' s cap (Mm.sample x.m true).2 ∧ ∃ F', RAt w' x.q F' (Mm.sample x.m true).1 ∧ (∀ g, F' g → (fun j => j = x.q ∨ j = qr0) g ∨ wr.heap.size ≤ g) ∧ (∀ g o, s = some ⟨g, o, none⟩ → ¬ F' g) ∧ Kept (fun j => j = x.q ∨ j = qr0) wr w') :=
                rat_sample wr x.q _ x.m (bsg true) ⟨qr0, HCr.out.ri.mac _ (List.mem_of_getElem? h0), rfl⟩
              have hl3 : (Mm.sample x.m true).2.length ≤ 3 := Mm.sample_len _ _
              have HL3 : Hid ((evr N true k).length + (Mm.sample x.m true).2.length ≤ 1000) := by show _ ≤ _; have := HEl.out true k; omega
              have HEn : Hid (evr N true (k + 1) = evr N true k ++ (Mm.sample x.m true).2) := evr_next N true k x hx
              clear hx h0
              go_wp2_with fail
              refine HSm.out.mono ?_
              rintro e w1 ⟨s2, cap2, rfl, hE1, F', hA1, hF1, hd1, hK1⟩
              obtain ⟨qr1, hC1⟩ := HCr.out.samp H0.out hA1 hF1 hK1
              have HC1 : Hid (Cur w w1 r gm gh cm ch N (tr ++ [true]) (N'.set k ⟨x.q, qr1, s0, ca0, (Mm.sample x.m true).1, x.h⟩) sA cA (evr N true k)) := hC1
              have HE1 : Hid (EvAt wr.heap.size w1 s2 cap2 (Mm.sample x.m true).2) := hE1
              have HZ1 : Hid (wr.heap.size ≤ w1.heap.size) := hK1.size
              have HZ0 : Hid (w.heap.size ≤ wr.heap.size) := HCr.out.kept.size
              have HlA : Hid (∀ g o, sA = some ⟨g, o, none⟩ → g < wr.heap.size) := fun g o e => (HCr.out.ev.zero g o e).2.2
              have H1 : Hid ((N'.set k ⟨x.q, qr1, s0, ca0, (Mm.sample x.m true).1, x.h⟩)[k]? = some ⟨x.q, qr1, s0, ca0, (Mm.sample x.m true).1, x.h⟩) := List.getElem?_set_self (by rw [hN']; exact hlt)
              obtain ⟨l2, hl2⟩ : ∃ l2, (Mm.sample x.m true).2.length = l2 := ⟨_, rfl⟩
              have Hl2 : Hid (l2 = (Mm.sample x.m true).2.length) := hl2.symm
              rw [hl2] at hl3 ⊢
              clear hE1 hA1 hF1 hd1 hK1 hC1 HCr HSm c0 cmk hl2
              go_wp2_with (refine wpList_append_ev rfl (.tmp 64) (.tmp 65) rfl (B := w.heap.size) (B2 := wr.heap.size) (s := sA) (s2 := s2) (n := m) (n2 := l2) (cap := cA) (cap2 := cap2) (l := evr N true k) (l2 := (Mm.sample x.m true).2) rfl rfl Hm.out Hl2.out HC1.out.ev HE1.out (Nat.le_trans HZ0.out HZ1.out) HL3.out ?_; intro s3 c3 w2 hE2 hg2 hp2)
              have HC2 : Hid (Cur w w2 r gm gh cm ch N (tr ++ [true]) (N'.set k ⟨x.q, qr1, s0, ca0, (Mm.sample x.m true).1, x.h⟩) s3 c3 (evr N true (k + 1))) := by rw [HEn.out]; exact HC1.out.all hE2 hg2 hp2
              have HT2 : Hid (EvAt wr.heap.size w2 s2 cap2 (Mm.sample x.m true).2) := HE1.out.on (fun g o e => hg2.block g (HE1.out.zero g o e).2.2 (fun z => by
                have hB := (HE1.out.zero g o e).2.1
                cases hsA : sA with
                | none => rw [hsA] at z; cases z
                | some a =>
                  have ha := HC1.out.ev.plain a hsA
                  cases a with
                  | mk b0 o0 sp =>
                    dsimp only at ha
                    subst ha
                    rw [hsA] at z
                    have hb : b0 = g := by simpa using z.symm
                    have := HlA.out b0 o0 hsA
                    omega))
              have Hm2 : Hid (m + l2 = (evr N true (k + 1)).length) := by show _ = _; rw [HEn.out, List.length_append, ← Hm.out, ← Hl2.out]
              clear hE2 hg2 hp2 HC1 HE1 HlA HZ1 HZ0
              have hN2 : (N'.set k (⟨x.q, qr1, s0, ca0, (Mm.sample x.m true).1, x.h⟩ : Rn)).length = n := by rw [List.length_set]; exact hN'
              have hkN : k < N'.length := by rw [hN']; exact hlt
              have hb4 : Below w2.heap.size w2 w2.drew := (Below.refl _ _).drew
              have HC4 : Hid (Cur w w2.drew r gm gh cm ch N (tr ++ [true]) (N'.set k ⟨x.q, qr1, s0, ca0, (Mm.sample x.m true).1, x.h⟩) s3 c3 (evr N true (k + 1))) := HC2.out.below hb4
              have HT4 : Hid (EvAt wr.heap.size w2.drew s2 cap2 (Mm.sample x.m true).2) := HT2.out.on (fun g o e => hb4.block g (HT2.out.zero g o e).2.2)
              obtain ⟨c1, chk, fhk⟩ := HC2.out.keepH H1.out (Kept.refl _ _)
              rw [hN2] at c1
              have chk' : w2.cell? ⟨gh, k, none⟩ = some (.slice s0 x.h.length ca0) := chk
              have HE4 : Hid (EvO w2.drew s0 ca0 x.h) := HC4.out.ri.ev _ (List.mem_of_getElem? H1.out)
              have HKp : Hid (∀ w5, Kept (fun g => s0.map (·.block) = some g) w2.drew w5 → w5.cell? ⟨r, 1, none⟩ = some (.slice (some ⟨gh, 0, none⟩) n ch) ∧ w5.cell? ⟨gh, k, none⟩ = some (.slice s0 x.h.length ca0) ∧ w5.frozen? ⟨gh, k, none⟩ = false) := fun w5 hk5 => by
                have := HC4.out.keepH H1.out hk5
                rw [hN2] at this
                exact this
              have HLl : Hid (x.h.length + (Mm.sample x.m true).2.length ≤ 1000) := by show _ ≤ _; have := Hl2.out; omega
              have hltI : (k : Int) < (n : Int) := by omega
              clear chk hb4
              go_wp2_with fail
              go_cut [] from 67 to 81 (fun wx => ∃ s4 c4, Hid (Cur w wx r gm gh cm ch N (tr ++ [true]) (N'.set k ⟨x.q, qr1, s4, c4, (Mm.sample x.m true).1, x.h ++ (Mm.sample x.m true).2⟩) s3 c3 (evr N true (k + 1))))
              case first =>
                go_region_law (refine step_append_o rfl (.tmp 78) (.tmp 79) rfl (B2 := wr.heap.size) (s := s0) (s2 := s2) (n := x.h.length) (n2 := l2) (c := ca0) (cap2 := cap2) (l := x.h) (l2 := (Mm.sample x.m true).2) rfl rfl rfl Hl2.out HE4.out HT4.out HLl.out ?_; intro s4 c4 w5 hE5 hk5 hs5; obtain ⟨g1, g2, g3⟩ := HKp.out w5 hk5; have HC5 : Hid (Cur w (w5.setCell ⟨gh, k, none⟩ (.slice s4 (x.h.length + l2) c4)) r gm gh cm ch N (tr ++ [true]) (N'.set k ⟨x.q, qr1, s4, c4, (Mm.sample x.m true).1, x.h ++ (Mm.sample x.m true).2⟩) s3 c3 (evr N true (k + 1))) := HC4.out.heard2 hkN (by rw [List.length_append, ← Hl2.out]) hk5 hE5 (hs5.elim (fun e => Or.inl (by rw [e])) (fun e => Or.inr ⟨_, e, Nat.le_refl _⟩)); clear hE5 hk5 hs5)
                all_goals
                  go_wp2_with fail
                  go_meet
                  case rel => exact ⟨s4, c4, HC5⟩
              case rest =>
                obtain ⟨s4, c4, HC5⟩ := hcut
                have hN5 : (N'.set k (⟨x.q, qr1, s4, c4, (Mm.sample x.m true).1, x.h ++ (Mm.sample x.m true).2⟩ : Rn)).length = n := by rw [List.length_set]; exact hN'
                have h5 : (N'.set k (⟨x.q, qr1, s4, c4, (Mm.sample x.m true).1, x.h ++ (Mm.sample x.m true).2⟩ : Rn))[k]? = some ⟨x.q, qr1, s4, c4, (Mm.sample x.m true).1, x.h ++ (Mm.sample x.m true).2⟩ := List.getElem?_set_self hkN
                obtain ⟨d1, dhk, dfk⟩ := HC5.out.keepH h5 (Kept.refl _ _)
                obtain ⟨L, hL⟩ : ∃ L, (x.h ++ (Mm.sample x.m true).2).length = L := ⟨_, rfl⟩
                have HLe : Hid ((x.h ++ (Mm.sample x.m true).2).length = L) := hL
                have hLb : L ≤ 103 := by rw [← hL, List.length_append, ← Hl2.out]; omega
                have dhk' : wc.cell? ⟨gh, k, none⟩ = some (.slice s4 L c4) := by rw [← hL]; exact dhk
                rw [hN5] at d1
                have hE5 : EvO wc s4 c4 (x.h ++ (Mm.sample x.m true).2) := HC5.out.ri.ev _ (List.mem_of_getElem? h5)
                have HH5 : Hid ((N'.set k (⟨x.q, qr1, s4, c4, (Mm.sample x.m true).1, x.h ++ (Mm.sample x.m true).2⟩ : Rn))[k]? = some ⟨x.q, qr1, s4, c4, (Mm.sample x.m true).1, x.h ++ (Mm.sample x.m true).2⟩) := h5
                clear dhk hL c1 chk' fhk HC4 HT4 HE4 HKp HLl h5
                by_cases hbig : 100 < L
                · obtain ⟨g, o, rfl⟩ : ∃ g o, s4 = some ⟨g, o, none⟩ := by
                    rcases hE5.2.2 with ⟨_, z⟩ | ⟨g, o, e, _⟩
                    · have z1 := hE5.1; have z2 := HLe.out; omega
                    · exact ⟨g, o, e⟩
                  have hcL : L ≤ c4 := by have z1 := hE5.1; have z2 := HLe.out; omega
                  have hsl : ∀ W, (Instr.slice 43 (.slice (some ⟨g, o, none⟩) L c4) (some (.int .i64 ((L : Int) - 100))) none none).run Tryz.prog W = .ok (.slice (some ⟨g, o + (L - 100) * 6, none⟩) 100 (c4 - (L - 100))) W := fun W => by
                    have := run_sliceO (P := Tryz.prog) 43 60 6 Tryz.underlying43 evInfo1 g o L c4 ((L : Int) - 100) (L - 100) (by omega) (by omega) (by omega) hcL W
                    rw [show L - (L - 100) = 100 by omega] at this
                    exact this
                  have HE6 : Hid (EvO wc (some ⟨g, o + (L - 100) * 6, none⟩) (c4 - (L - 100)) ((x.h ++ (Mm.sample x.m true).2).drop (L - 100))) := hE5.cut (L - 100) (by rw [HLe.out]; omega)
                  have HLs : Hid (Mm.lst (x.h ++ (Mm.sample x.m true).2) = (x.h ++ (Mm.sample x.m true).2).drop (L - 100)) := by show _ = _; unfold Mm.lst; rw [HLe.out]
                  have HD100 : Hid (100 = ((x.h ++ (Mm.sample x.m true).2).drop (L - 100)).length) := by show _ = _; rw [List.length_drop, HLe.out]; omega
                  have hslw : ∀ W, (Instr.slice 43 (.slice (some ⟨g, o, none⟩) L c4) (some (.int .i64 (IntKind.i64.wrap ((L : Int) - 100)))) none none).run Tryz.prog W = .ok (.slice (some ⟨g, o + (L - 100) * 6, none⟩) 100 (c4 - (L - 100))) W := fun W => by
                    rw [show IntKind.i64.wrap ((L : Int) - 100) = (L : Int) - 100 by rw [IntKind.wrap_i64]; omega]
                    exact hsl W
                  have hLI : (L : Int) ≤ 103 := by omega
                  have hLJ : 100 < (L : Int) := by omega
                  clear hE5
                  go_wp2_with fail
                  refine Lw.region_tail 23 (by kernel_rfl) (by kernel_rfl) ?_
                  intro w7 hw7
                  have hb7 : Below wc.heap.size wc w7 := by rw [hw7]; exact (Below.refl _ _).drew
                  have HC7 : Hid (Cur w (w7.setCell ⟨gh, k, none⟩ (.slice (some ⟨g, o + (L - 100) * 6, none⟩) 100 (c4 - (L - 100)))) r gm gh cm ch N (tr ++ [true]) (N'.set k ⟨x.q, qr1, some ⟨g, o + (L - 100) * 6, none⟩, c4 - (L - 100), (Mm.sample x.m true).1, (x.h ++ (Mm.sample x.m true).2).drop (L - 100)⟩) s3 c3 (evr N true (k + 1))) :=
                    (HC5.out.below hb7).heard2 hkN HD100.out (Kept.refl _ _) (HE6.out.on hb7.size (fun q e => hb7.block _ (HE6.out.lt q e).1)) (Or.inl rfl)
                  have e1 : w7.cell? ⟨r, 1, none⟩ = some (.slice (some ⟨gh, 0, none⟩) n ch) := by rw [hw7]; exact d1
                  have e2 : w7.cell? ⟨gh, k, none⟩ = some (.slice (some ⟨g, o, none⟩) L c4) := by rw [hw7]; exact dhk'
                  have e3 : w7.frozen? ⟨gh, k, none⟩ = false := by rw [hw7]; exact dfk
                  clear hw7 hb7 d1 dhk' dfk HC5 HE6
                  simp only [List.take_succ_cons, List.take_zero, List.drop_succ_cons, List.drop_zero]
                  repeat (first | still_step)
                  refine wpStill_nil ?_
                  go_wp2
                  go_roundw
                  case rel => exact ⟨k + 1, s3, c3, m + l2, _, by omega, rfl, rfl, Hm2, sofarR_next HSo.out HX.out ⟨x.q, qr1, some ⟨g, o + (L - 100) * 6, none⟩, c4 - (L - 100), (Mm.sample x.m true).1, (x.h ++ (Mm.sample x.m true).2).drop (L - 100)⟩ rfl rfl HLs.out.symm, HC7⟩
                  case measure => simp only [intOf]; omega
                · have HLs : Hid (Mm.lst (x.h ++ (Mm.sample x.m true).2) = x.h ++ (Mm.sample x.m true).2) := Mm.lst_id (by rw [HLe.out]; omega)
                  clear hE5
                  go_wp2
                  go_roundw
                  case rel => exact ⟨k + 1, s3, c3, m + l2, _, by omega, rfl, rfl, Hm2, sofarR_next HSo.out HX.out ⟨x.q, qr1, s4, c4, (Mm.sample x.m true).1, x.h ++ (Mm.sample x.m true).2⟩ rfl rfl HLs.out.symm, HC5⟩
                  case measure => simp only [intOf]; omega
            · obtain rfl : k = n := by omega
              go_wp2
              go_ret
              exact ⟨sA, cA, N', by rw [← Hm.out]; rfl, HSo.out, HCr.out⟩
end Go.Proofs.YthkaekpoicodeaaGreatDoor
/- Law 8's own world of the document's nodes: a world in the making. -/
namespace Go.Proofs.YthkaekpoicodeaaGreatDoor
open Go.RowKit
set_option linter.unusedVariables false
/-- The block of each part, as far as there is one. -/
def bom (r : Nat) (sm sh : Option Addr) (N : List Rn) : Sl → Option Nat
  | .hd => some r
  | .gm => sm.map (·.block)
  | .gh => sh.map (·.block)
  | .mac i => (N[i]?).map (·.q)
  | .rd i => (N[i]?).map (·.qr)
  | .ev i => none
theorem mInfo : (Tryz.prog.info? 38).map (fun i => (i.zero, i.size, i.bytes)) = some (some (.pointer none), 1, 8) := by kernel_rfl
theorem hInfo : (Tryz.prog.info? 43).map (fun i => (i.zero, i.size, i.bytes)) = some (some (.slice none 0 0), 1, 24) := by kernel_rfl
structure MkI (w wx : World) (r km kh : Nat) (sm : Option Addr) (cm : Nat) (sh : Option Addr) (ch : Nat) (N : List Rn) : Prop where
  head : wx.heap[r]? = some (.cells #[.slice sm km cm, .slice sh kh ch, .string ⟨#[]⟩] 32 (0, 0))
  om : wx.ownsRow w.heap.size 38 1 (.slice sm km cm) km (N.map (fun x => bptr x.q))
  oh : wx.ownsRow w.heap.size 43 1 (.slice sh kh ch) kh (List.replicate kh (.slice none 0 0))
  len : N.length = km
  fr : ∀ x ∈ N, x.m = Mm.fresh ∧ x.h = [] ∧ x.s = none ∧ x.c = 0
  mac : ∀ x ∈ N, RMac wx x.q x.qr x.m
  inj : Inj (bom r sm sh N)
  lt : ∀ a g, bom r sm sh N a = some g → g < wx.heap.size
  low : ∀ a g, bom r sm sh N a = some g → w.heap.size ≤ g
  below : Below w.heap.size w wx
theorem own_on {w w' : World} {B : Nat} {e : TypeId} {s : Option Addr} {n c : Nat} {xs : List Value} {k : Nat} (h : w.ownsRow B e k (.slice s n c) n xs) (hb : ∀ q, s = some q → w'.heap[q.block]? = w.heap[q.block]?) : w'.ownsRow B e k (.slice s n c) n xs := by
  refine ⟨h.1, ?_⟩
  rcases h.2 with ⟨h1, h2⟩ | ⟨g, c, cur, hv, hg, hh, rr⟩
  · exact Or.inl ⟨h1, h2⟩
  · have hs : s = some ⟨g, 0, none⟩ := by injection hv
    exact Or.inr ⟨g, c, cur, hv, hg, by rw [hb _ hs]; exact hh, rr⟩
theorem MkI.on {w wx w' : World} {r km kh : Nat} {sm : Option Addr} {cm : Nat} {sh : Option Addr} {ch : Nat} {N : List Rn} (h : MkI w wx r km kh sm cm sh ch N) (hb : Below wx.heap.size wx w') : MkI w w' r km kh sm cm sh ch N := by
  have e : ∀ a g, bom r sm sh N a = some g → w'.heap[g]? = wx.heap[g]? := fun a g ha => hb.block g (h.lt a g ha)
  refine ⟨(e .hd r rfl).trans h.head, own_on h.om (fun q hq => e .gm _ (by show sm.map _ = _; rw [hq]; rfl)), own_on h.oh (fun q hq => e .gh _ (by show sh.map _ = _; rw [hq]; rfl)), h.len, h.fr, fun x hx => ?_, h.inj, fun a g ha => Nat.lt_of_lt_of_le (h.lt a g ha) hb.size, h.low, h.below.trans (hb.mono h.below.size)⟩
  obtain ⟨i, hi⟩ := mem_idx hx
  exact (h.mac x hx).on (e (.mac i) _ (by show (N[i]?).map _ = _; rw [hi]; rfl)) (e (.rd i) _ (by show (N[i]?).map _ = _; rw [hi]; rfl))
theorem mk_start (w : World) : MkI w (w.alloc (.cells #[.slice none 0 0, .slice none 0 0, .string ⟨#[]⟩] 32)) w.heap.size 0 0 none 0 none 0 [] := by
  have key : ∀ a g, bom w.heap.size none none [] a = some g → a = .hd ∧ g = w.heap.size := by
    intro a g ha
    cases a with
    | hd => injection ha with ha; exact ⟨rfl, ha.symm⟩
    | gm => cases ha
    | gh => cases ha
    | mac i => cases ha
    | rd i => cases ha
    | ev i => cases ha
  refine ⟨heap_alloc_new _ _, ⟨rfl, Or.inl ⟨rfl, rfl⟩⟩, ⟨rfl, Or.inl ⟨rfl, rfl⟩⟩, rfl, fun x hx => (by cases hx), fun x hx => (by cases hx), fun a b g ha hb => (key a g ha).1.trans (key b g hb).1.symm, fun a g ha => ?_, fun a g ha => ?_, (Below.refl _ _).alloc (Nat.le_refl _) _⟩
  · rw [(key a g ha).2]; simp
  · rw [(key a g ha).2]; exact Nat.le_refl _
theorem MkI.c0 {w wx : World} {r km kh : Nat} {sm : Option Addr} {cm : Nat} {sh : Option Addr} {ch : Nat} {N : List Rn} (h : MkI w wx r km kh sm cm sh ch N) : wx.cell? ⟨r, 0, none⟩ = some (.slice sm km cm) ∧ wx.cell? ⟨r, 1, none⟩ = some (.slice sh kh ch) ∧ wx.frozen? ⟨r, 0, none⟩ = false ∧ wx.frozen? ⟨r, 1, none⟩ = false :=
  ⟨by rw [cell_of_row _ _ _ _ _ _ h.head]; rfl, by rw [cell_of_row _ _ _ _ _ _ h.head]; rfl, frozen_of_row _ _ _ _ _ h.head, frozen_of_row _ _ _ _ _ h.head⟩
theorem grown_blk {w2 w3 : World} {s : Option Addr} (hg : w2.grownBy w3 (s.map (·.block))) (g : Nat) (hl : g < w2.heap.size) (hne : s.map (·.block) ≠ some g) : w3.heap[g]? = w2.heap[g]? := hg.block g hl (fun e => hne e.symm)
/-- One Mac more. -/
theorem MkI.addM {w w2 w3 : World} {r k kh : Nat} {sm : Option Addr} {cm : Nat} {sh : Option Addr} {ch : Nat} {N : List Rn} {B q qr g c : Nat} (h : MkI w w2 r k kh sm cm sh ch N) (hB : ∀ a g, bom r sm sh N a = some g → g < B) (hR : RMac w2 q qr Mm.fresh) (hq : B ≤ q) (hqr : B ≤ qr) (hql : q < w2.heap.size) (hw : w.heap.size ≤ B)
    (hown : w3.ownsRow w.heap.size 38 1 (.slice (some ⟨g, 0, none⟩) (k + 1) c) (k + 1) (N.map (fun x => bptr x.q) ++ [bptr q])) (hg : w2.grownBy w3 (sm.map (·.block))) (hat : sm.map (·.block) = some g ∨ g = w2.heap.size) (hgl : g < w3.heap.size) :
    MkI w (w3.setCell ⟨r, 0, none⟩ (.slice (some ⟨g, 0, none⟩) (k + 1) c)) r (k + 1) kh (some ⟨g, 0, none⟩) c sh ch (N ++ [⟨q, qr, none, 0, Mm.fresh, []⟩]) := by
  have hqq := hR.ne
  have hz : (w3.setCell ⟨r, 0, none⟩ (.slice (some ⟨g, 0, none⟩) (k + 1) c)).heap.size = w3.heap.size := by simp
  have hr : r < w2.heap.size := h.lt .hd r rfl
  have hrB : r < B := hB .hd r rfl
  have hsmr : sm.map (·.block) ≠ some r := fun e => by have := h.inj .gm .hd r e rfl; cases this
  have hgr : g ≠ r := by
    rcases hat with e | e
    · intro k; exact hsmr (by rw [← k]; exact e)
    · omega
  have oth : ∀ g', g' ≠ r → (w3.setCell ⟨r, 0, none⟩ (.slice (some ⟨g, 0, none⟩) (k + 1) c)).heap[g']? = w3.heap[g']? := fun g' hg' => heap_setCell_other _ ⟨r, 0, none⟩ g' _ hg'
  have blk : ∀ g', g' < w2.heap.size → sm.map (·.block) ≠ some g' → g' ≠ r → (w3.setCell ⟨r, 0, none⟩ (.slice (some ⟨g, 0, none⟩) (k + 1) c)).heap[g']? = w2.heap[g']? := fun g' h1 h2 h3 => (oth g' h3).trans (grown_blk hg g' h1 h2)
  have old : ∀ a g', bom r sm sh N a = some g' → a ≠ .hd → a ≠ .gm → (w3.setCell ⟨r, 0, none⟩ (.slice (some ⟨g, 0, none⟩) (k + 1) c)).heap[g']? = w2.heap[g']? := fun a g' ha h1 h2 => blk g' (h.lt a g' ha) (fun e => h2 (h.inj a .gm g' ha e)) (fun e => h1 (h.inj a .hd g' ha (by rw [e]; rfl)))
  have hsz : w2.heap.size ≤ w3.heap.size := hg.size
  -- the parts' blocks, one by one
  have part : ∀ a g', bom r (some ⟨g, 0, none⟩) sh (N ++ [⟨q, qr, none, 0, Mm.fresh, []⟩]) a = some g' → (a = .gm ∧ g' = g) ∨ (a ≠ .gm ∧ bom r sm sh N a = some g') ∨ (a = .mac k ∧ g' = q) ∨ (a = .rd k ∧ g' = qr) := by
    intro a g' ha
    cases a with
    | hd => exact Or.inr (Or.inl ⟨(by intro k; cases k), ha⟩)
    | gm => injection ha with ha; exact Or.inl ⟨rfl, ha.symm⟩
    | gh => exact Or.inr (Or.inl ⟨(by intro k; cases k), ha⟩)
    | mac i =>
      have ha : ((N ++ [(⟨q, qr, none, 0, Mm.fresh, []⟩ : Rn)])[i]?).map (·.q) = some g' := ha
      by_cases hi : i < N.length
      · rw [List.getElem?_append_left hi] at ha; exact Or.inr (Or.inl ⟨(by intro k; cases k), ha⟩)
      · rw [List.getElem?_append_right (by omega)] at ha
        by_cases e : i = N.length
        · subst e
          rw [Nat.sub_self] at ha
          injection ha with ha
          exact Or.inr (Or.inr (Or.inl ⟨by rw [h.len], ha.symm⟩))
        · rw [List.getElem?_eq_none (by simp; omega)] at ha; cases ha
    | rd i =>
      have ha : ((N ++ [(⟨q, qr, none, 0, Mm.fresh, []⟩ : Rn)])[i]?).map (·.qr) = some g' := ha
      by_cases hi : i < N.length
      · rw [List.getElem?_append_left hi] at ha; exact Or.inr (Or.inl ⟨(by intro k; cases k), ha⟩)
      · rw [List.getElem?_append_right (by omega)] at ha
        by_cases e : i = N.length
        · subst e
          rw [Nat.sub_self] at ha
          injection ha with ha
          exact Or.inr (Or.inr (Or.inr ⟨by rw [h.len], ha.symm⟩))
        · rw [List.getElem?_eq_none (by simp; omega)] at ha; cases ha
    | ev i => cases ha
  have gne : ∀ a g', a ≠ .gm → bom r sm sh N a = some g' → g' ≠ g := fun a g' h1 ha e => by
    rcases hat with z | z
    · exact h1 (h.inj a .gm g' ha (by rw [e]; exact z))
    · have := h.lt a g' ha; omega
  have gB : g ≠ q ∧ g ≠ qr := by
    rcases hat with z | z
    · have := hB .gm g z; omega
    · have := hR.lt; omega
  refine ⟨?_, (by rw [List.map_append]; exact own_on hown (fun q' e => by injection e with e; subst e; exact oth g hgr)), own_on h.oh (fun q' e => ?_), by rw [List.length_append, h.len]; rfl, fun x hx => ?_, fun x hx => ?_, fun a b g' ha hb => ?_, fun a g' ha => ?_, fun a g' ha => ?_, ?_⟩
  · have hh : w3.heap[r]? = some (.cells #[.slice sm k cm, .slice sh kh ch, .string ⟨#[]⟩] 32 (0, 0)) := (grown_blk hg r hr hsmr).trans h.head
    rw [heap_setCell_same _ _ _ _ _ _ hh]; rfl
  · exact old .gh _ (by show sh.map _ = _; rw [e]; rfl) (by intro k; cases k) (by intro k; cases k)
  · rcases List.mem_append.1 hx with z | z
    · exact h.fr x z
    · simp at z; subst z; exact ⟨rfl, rfl, rfl, rfl⟩
  · rcases List.mem_append.1 hx with z | z
    · obtain ⟨i, hi⟩ := mem_idx z
      exact (h.mac x z).on (old (.mac i) _ (by show (N[i]?).map _ = _; rw [hi]; rfl) (by intro k; cases k) (by intro k; cases k)) (old (.rd i) _ (by show (N[i]?).map _ = _; rw [hi]; rfl) (by intro k; cases k) (by intro k; cases k))
    · simp at z
      subst z
      refine hR.on (blk q hql (fun e => ?_) (by omega)) (blk qr hR.lt (fun e => ?_) (by omega))
      · have := hB .gm q e; omega
      · have := hB .gm qr e; omega
  · rcases part a g' ha with ⟨a1, a2⟩ | ⟨a1, a2⟩ | ⟨a1, a2⟩ | ⟨a1, a2⟩ <;> rcases part b g' hb with ⟨b1, b2⟩ | ⟨b1, b2⟩ | ⟨b1, b2⟩ | ⟨b1, b2⟩
    · rw [a1, b1]
    · exact absurd a2 (gne b g' b1 b2)
    · exact absurd (a2.symm.trans b2) gB.1
    · exact absurd (a2.symm.trans b2) gB.2
    · exact absurd b2 (gne a g' a1 a2)
    · exact h.inj a b g' a2 b2
    · have := hB a g' a2; omega
    · have := hB a g' a2; omega
    · exact absurd (b2.symm.trans a2) gB.1
    · have := hB b g' b2; omega
    · rw [a1, b1]
    · exact absurd (a2.symm.trans b2) hqq
    · exact absurd (b2.symm.trans a2) gB.2
    · have := hB b g' b2; omega
    · exact absurd (b2.symm.trans a2) hqq
    · rw [a1, b1]
  · rw [hz]
    rcases part a g' ha with ⟨_, rfl⟩ | ⟨_, a2⟩ | ⟨_, rfl⟩ | ⟨_, rfl⟩
    · exact hgl
    · exact Nat.lt_of_lt_of_le (h.lt a g' a2) hsz
    · omega
    · exact Nat.lt_of_lt_of_le hR.lt hsz
  · rcases part a g' ha with ⟨_, rfl⟩ | ⟨_, a2⟩ | ⟨_, rfl⟩ | ⟨_, rfl⟩
    · rcases hat with z | z
      · exact h.low .gm _ z
      · have := h.below.size; omega
    · exact h.low a g' a2
    · omega
    · omega
  · have hb3 : Below w.heap.size w w3 := ⟨hg.os.trans h.below.os, hg.tape.trans h.below.tape, hg.output.trans h.below.output, Nat.le_trans h.below.size hg.size, fun i hi => (grown_blk hg i (Nat.lt_of_lt_of_le hi h.below.size) (fun e => by have := h.low .gm i e; omega)).trans (h.below.block i hi)⟩
    exact hb3.setCell (h.low .hd r rfl) _
/-- One heard list more, with nothing in it. -/
theorem MkI.addH {w w2 w3 : World} {r k kh : Nat} {sm : Option Addr} {cm : Nat} {sh : Option Addr} {ch : Nat} {N : List Rn} {g c : Nat} (h : MkI w w2 r k kh sm cm sh ch N)
    (hown : w3.ownsRow w.heap.size 43 1 (.slice (some ⟨g, 0, none⟩) (kh + 1) c) (kh + 1) (List.replicate kh (.slice none 0 0) ++ [.slice none 0 0])) (hg : w2.grownBy w3 (sh.map (·.block))) (hat : sh.map (·.block) = some g ∨ g = w2.heap.size) (hgl : g < w3.heap.size) :
    MkI w (w3.setCell ⟨r, 1, none⟩ (.slice (some ⟨g, 0, none⟩) (kh + 1) c)) r k (kh + 1) sm cm (some ⟨g, 0, none⟩) c N := by
  have hz : (w3.setCell ⟨r, 1, none⟩ (.slice (some ⟨g, 0, none⟩) (kh + 1) c)).heap.size = w3.heap.size := by simp
  have hr : r < w2.heap.size := h.lt .hd r rfl
  have hshr : sh.map (·.block) ≠ some r := fun e => by have := h.inj .gh .hd r e rfl; cases this
  have hgr : g ≠ r := by
    rcases hat with e | e
    · intro k; exact hshr (by rw [← k]; exact e)
    · omega
  have oth : ∀ g', g' ≠ r → (w3.setCell ⟨r, 1, none⟩ (.slice (some ⟨g, 0, none⟩) (kh + 1) c)).heap[g']? = w3.heap[g']? := fun g' hg' => heap_setCell_other _ ⟨r, 1, none⟩ g' _ hg'
  have old : ∀ a g', bom r sm sh N a = some g' → a ≠ .hd → a ≠ .gh → (w3.setCell ⟨r, 1, none⟩ (.slice (some ⟨g, 0, none⟩) (kh + 1) c)).heap[g']? = w2.heap[g']? := fun a g' ha h1 h2 => (oth g' (fun e => h1 (h.inj a .hd g' ha (by rw [e]; rfl)))).trans (grown_blk hg g' (h.lt a g' ha) (fun e => h2 (h.inj a .gh g' ha e)))
  have part : ∀ a g', bom r sm (some ⟨g, 0, none⟩) N a = some g' → (a = .gh ∧ g' = g) ∨ (a ≠ .gh ∧ bom r sm sh N a = some g') := by
    intro a g' ha
    cases a with
    | hd => exact Or.inr ⟨(by intro k; cases k), ha⟩
    | gm => exact Or.inr ⟨(by intro k; cases k), ha⟩
    | gh => injection ha with ha; exact Or.inl ⟨rfl, ha.symm⟩
    | mac i => exact Or.inr ⟨(by intro k; cases k), ha⟩
    | rd i => exact Or.inr ⟨(by intro k; cases k), ha⟩
    | ev i => cases ha
  have gne : ∀ a g', a ≠ .gh → bom r sm sh N a = some g' → g' ≠ g := fun a g' h1 ha e => by
    rcases hat with z | z
    · exact h1 (h.inj a .gh g' ha (by rw [e]; exact z))
    · have := h.lt a g' ha; omega
  refine ⟨?_, own_on h.om (fun q' e => ?_), ?_, h.len, h.fr, fun x hx => ?_, fun a b g' ha hb => ?_, fun a g' ha => ?_, fun a g' ha => ?_, ?_⟩
  · have hh : w3.heap[r]? = some (.cells #[.slice sm k cm, .slice sh kh ch, .string ⟨#[]⟩] 32 (0, 0)) := (grown_blk hg r hr hshr).trans h.head
    rw [heap_setCell_same _ _ _ _ _ _ hh]; rfl
  · exact old .gm _ (by show sm.map _ = _; rw [e]; rfl) (by intro k; cases k) (by intro k; cases k)
  · rw [List.replicate_succ']
    exact own_on hown (fun q' e => by injection e with e; subst e; exact oth g hgr)
  · obtain ⟨i, hi⟩ := mem_idx hx
    exact (h.mac x hx).on (old (.mac i) _ (by show (N[i]?).map _ = _; rw [hi]; rfl) (by intro k; cases k) (by intro k; cases k)) (old (.rd i) _ (by show (N[i]?).map _ = _; rw [hi]; rfl) (by intro k; cases k) (by intro k; cases k))
  · rcases part a g' ha with ⟨a1, a2⟩ | ⟨a1, a2⟩ <;> rcases part b g' hb with ⟨b1, b2⟩ | ⟨b1, b2⟩
    · rw [a1, b1]
    · exact absurd a2 (gne b g' b1 b2)
    · exact absurd b2 (gne a g' a1 a2)
    · exact h.inj a b g' a2 b2
  · rw [hz]
    rcases part a g' ha with ⟨_, rfl⟩ | ⟨_, a2⟩
    · exact hgl
    · exact Nat.lt_of_lt_of_le (h.lt a g' a2) hg.size
  · rcases part a g' ha with ⟨_, rfl⟩ | ⟨_, a2⟩
    · rcases hat with z | z
      · exact h.low .gh _ z
      · have := h.below.size; omega
    · exact h.low a g' a2
  · have hb3 : Below w.heap.size w w3 := ⟨hg.os.trans h.below.os, hg.tape.trans h.below.tape, hg.output.trans h.below.output, Nat.le_trans h.below.size hg.size, fun i hi => (grown_blk hg i (Nat.lt_of_lt_of_le hi h.below.size) (fun e => by have := h.low .gh i e; omega)).trans (h.below.block i hi)⟩
    exact hb3.setCell (h.low .hd r rfl) _
end Go.Proofs.YthkaekpoicodeaaGreatDoor
/- Law 8's own world of the document's nodes: made. -/
namespace Go.Proofs.YthkaekpoicodeaaGreatDoor
open Go.RowKit
set_option linter.unusedVariables false
theorem MkI.end {w wx : World} {r K : Nat} {sm : Option Addr} {cm : Nat} {sh : Option Addr} {ch : Nat} {N : List Rn} (h : MkI w wx r K K sm cm sh ch N) (h1 : 1 ≤ K) (h8 : K ≤ 8) : ∃ gm gh, RI wx r gm gh cm ch N [] ∧ (∀ g, fpr r gm gh N g → w.heap.size ≤ g) := by
  rcases h.om.2 with ⟨_, z⟩ | ⟨gm, c1, cur1, hv1, hg1, hh1, hc1, _, hz1, ht1⟩
  · omega
  · rcases h.oh.2 with ⟨_, z⟩ | ⟨gh, c2, cur2, hv2, hg2, hh2, hc2, _, hz2, ht2⟩
    · omega
    · injection hv1 with s1 _ e1
      injection hv2 with s2 _ e2
      subst s1 s2
      have hb : ∀ a g, bo r gm gh N a = some g → bom r (some ⟨gm, 0, none⟩) (some ⟨gh, 0, none⟩) N a = some g := by
        intro a g ha
        cases a with
        | hd => exact ha
        | gm => exact ha
        | gh => exact ha
        | mac i => exact ha
        | rd i => exact ha
        | ev i =>
          have ha : (N[i]?).bind (fun x => x.s.map (·.block)) = some g := ha
          cases hi : N[i]? with
          | none => rw [hi] at ha; cases ha
          | some x =>
            rw [hi] at ha
            have ha : x.s.map (·.block) = some g := ha
            rw [(h.fr x (List.mem_of_getElem? hi)).2.2.1] at ha
            cases ha
      refine ⟨gm, gh, ⟨by rw [h.len]; exact h.head, ⟨cur1, hh1, fun i x hx => ?_⟩, ⟨cur2, hh2, fun i x hx => ?_⟩, h.mac, fun x hx => ?_, fun a b g ha hb' => h.inj a b g (hb a g ha) (hb b g hb'), fun a g ha => h.lt a g (hb a g ha), by rw [h.len]; exact h1, by rw [h.len]; exact h8⟩, fun g ⟨a, ha⟩ => h.low a g (hb a g ha)⟩
      · have hi : i < K := by rw [← h.len]; exact (List.getElem?_eq_some_iff.1 hx).1
        have : (cur1.toList.take (K * 1))[i]? = some (bptr x.q) := by rw [ht1, List.getElem?_map, hx]; rfl
        rw [List.getElem?_take, if_pos (by omega)] at this
        simpa using this
      · have hi : i < K := by rw [← h.len]; exact (List.getElem?_eq_some_iff.1 hx).1
        obtain ⟨_, f2, f3, f4⟩ := h.fr x (List.mem_of_getElem? hx)
        have : (cur2.toList.take (K * 1))[i]? = some (.slice none 0 0) := by rw [ht2, List.getElem?_replicate, if_pos hi]
        rw [List.getElem?_take, if_pos (by omega)] at this
        rw [f2, f3, f4]
        simpa using this
      · obtain ⟨_, f2, f3, f4⟩ := h.fr x hx
        rw [f2, f3, f4]
        exact EvO.empty _
theorem mk_two {w1 : World} {q qr B : Nat} {o : Obj} {F : Nat → Prop} (hR : RMac w1 q qr Mm.fresh) (hF : ∀ g, F g → B ≤ g) (eF : F = fun j => j = q ∨ j = qr) : RMac (w1.alloc o) q qr Mm.fresh ∧ B ≤ q ∧ B ≤ qr ∧ q < (w1.alloc o).heap.size := by
  subst eF
  have hql : q < w1.heap.size := by obtain ⟨out, at_, ar, hm, _⟩ := hR.rowAt; exact hm.lt
  exact ⟨hR.on (Below.heap_alloc _ _ _ hql) (Below.heap_alloc _ _ _ hR.lt), hF q (Or.inl rfl), hF qr (Or.inr rfl), by simp; omega⟩
theorem own_block (s : Option Addr) (n c : Nat) : (Value.slice s n c).ownBlock = s.map (·.block) := by cases s <;> rfl
theorem mk_addM {w w2 w3 : World} {r k kh : Nat} {sm : Option Addr} {cm : Nat} {sh : Option Addr} {ch : Nat} {N : List Rn} {B q qr g c : Nat} (h : MkI w w2 r k kh sm cm sh ch N) (hB : ∀ a g, bom r sm sh N a = some g → g < B) (hR : RMac w2 q qr Mm.fresh ∧ B ≤ q ∧ B ≤ qr ∧ q < w2.heap.size) (hw : w.heap.size ≤ B)
    (hown : w3.ownsRow w.heap.size 38 1 (.slice (some ⟨g, 0, none⟩) (k + 1) c) (k + 1) (N.map (fun x => bptr x.q) ++ [bptr q])) (hg : w2.grownBy w3 (Value.slice sm k cm).ownBlock) (hat : (Value.slice sm k cm).ownBlock = some g ∨ g = w2.heap.size) (hgl : g < w3.heap.size) :
    MkI w (w3.setCell ⟨r, 0, none⟩ (.slice (some ⟨g, 0, none⟩) (k + 1) c)) r (k + 1) kh (some ⟨g, 0, none⟩) c sh ch (N ++ [⟨q, qr, none, 0, Mm.fresh, []⟩]) := by
  rw [own_block] at hg hat
  exact h.addM hB hR.1 hR.2.1 hR.2.2.1 hR.2.2.2 hw hown hg hat hgl
theorem mk_c0 {w w2 w3 : World} {r k kh : Nat} {sm : Option Addr} {cm : Nat} {sh : Option Addr} {ch : Nat} {N : List Rn} (h : MkI w w2 r k kh sm cm sh ch N) (hg : w2.grownBy w3 (Value.slice sm k cm).ownBlock) : w3.cell? ⟨r, 0, none⟩ = some (.slice sm k cm) ∧ w3.frozen? ⟨r, 0, none⟩ = false := by
  rw [own_block] at hg
  have hsmr : sm.map (·.block) ≠ some r := fun e => by have := h.inj .gm .hd r e rfl; cases this
  have hb := grown_blk hg r (h.lt .hd r rfl) hsmr
  exact ⟨(cell_blkO hb).trans h.c0.1, (frozen_blk hb).trans h.c0.2.2.1⟩
theorem mk_addH {w w2 w3 : World} {r k kh : Nat} {sm : Option Addr} {cm : Nat} {sh : Option Addr} {ch : Nat} {N : List Rn} {g c : Nat} (h : MkI w w2 r k kh sm cm sh ch N)
    (hown : w3.ownsRow w.heap.size 43 1 (.slice (some ⟨g, 0, none⟩) (kh + 1) c) (kh + 1) (List.replicate kh (.slice none 0 0) ++ [.slice none 0 0])) (hg : w2.grownBy w3 (Value.slice sh kh ch).ownBlock) (hat : (Value.slice sh kh ch).ownBlock = some g ∨ g = w2.heap.size) (hgl : g < w3.heap.size) :
    MkI w (w3.setCell ⟨r, 1, none⟩ (.slice (some ⟨g, 0, none⟩) (kh + 1) c)) r k (kh + 1) sm cm (some ⟨g, 0, none⟩) c N := by
  rw [own_block] at hg hat
  exact h.addH hown hg hat hgl
theorem mk_c1 {w w2 w3 : World} {r k kh : Nat} {sm : Option Addr} {cm : Nat} {sh : Option Addr} {ch : Nat} {N : List Rn} (h : MkI w w2 r k kh sm cm sh ch N) (hg : w2.grownBy w3 (Value.slice sh kh ch).ownBlock) : w3.cell? ⟨r, 1, none⟩ = some (.slice sh kh ch) ∧ w3.frozen? ⟨r, 1, none⟩ = false := by
  rw [own_block] at hg
  have hsmr : sh.map (·.block) ≠ some r := fun e => by have := h.inj .gh .hd r e rfl; cases this
  have hb := grown_blk hg r (h.lt .hd r rfl) hsmr
  exact ⟨(cell_blkO hb).trans h.c0.2.1, (frozen_blk hb).trans h.c0.2.2.2⟩
set_option maxRecDepth 100000 in
set_option maxHeartbeats 4000000 in
theorem made_any (w : World) (n : Int) : Calls Tryz.prog 6 #[.int .i64 n] w fun e w' => ∃ sm cm sh ch N, e = .returned (bptr w.heap.size) ∧ MkI w w' w.heap.size (Mm.heldN n) (Mm.heldN n) sm cm sh ch N := by
  obtain ⟨K, hK⟩ : ∃ K, Mm.heldN n = K := ⟨_, rfl⟩
  have h1 : 1 ≤ K ∧ K ≤ 8 := by rw [← hK]; unfold Mm.heldN; omega
  obtain ⟨M, hM⟩ : ∃ M : Int, min n 8 = M := ⟨_, rfl⟩
  have hM8 : max 1 M = (K : Int) := by rw [← hK, ← hM]; unfold Mm.heldN; omega
  obtain ⟨hK1, hK8⟩ := h1
  obtain ⟨i1, hi1, hz1, hs1, hb1⟩ := info_parts mInfo
  obtain ⟨i2, hi2, hz2, hs2, hb2⟩ := info_parts hInfo
  have HI1 : Hid (Tryz.prog.info? 38 = some i1 ∧ i1.zero = some (.pointer none) ∧ i1.size = 1 ∧ i1.bytes = 8) := ⟨hi1, hz1, hs1, hb1⟩
  have HI2 : Hid (Tryz.prog.info? 43 = some i2 ∧ i2.zero = some (.slice none 0 0) ∧ i2.size = 1 ∧ i2.bytes = 24) := ⟨hi2, hz2, hs2, hb2⟩
  have H0 : Hid (MkI w (w.alloc (.cells #[.slice none 0 0, .slice none 0 0, .string ⟨#[]⟩] 32)) w.heap.size 0 0 none 0 none 0 []) := mk_start w
  rw [hK]
  clear hK hi1 hz1 hs1 hb1 hi2 hz2 hs2 hb2
  go_enter Tryz.func6, Tryz.ntmps6
  go_wp2_with fail
  go_loopw [4] (fun i wr => ∃ (k : Nat) (sm : Option Addr) (cm : Nat) (sh : Option Addr) (ch : Nat) (N : List Rn), k ≤ K ∧ i = .int .i64 k ∧ Hid (MkI w wr w.heap.size k k sm cm sh ch N)) (fun i _ => K - (intOf i).toNat)
  case atStart => exact ⟨0, none, 0, none, 0, [], Nat.zero_le _, rfl, H0⟩
  case round =>
    clear H0
    obtain ⟨k, sm, cm, sh, ch, N, hk, rfl, HR⟩ := hrel
    by_cases hlt : k < K
    · obtain ⟨c0, c1, f0, f1⟩ := HR.out.c0
      have HRd : Hid (MkI w wr.drew w.heap.size k k sm cm sh ch N) := HR.out.on ((Below.refl _ _).drew)
      have HBl : Hid (∀ a g, bom w.heap.size sm sh N a = some g → g < wr.heap.size) := HR.out.lt
      go_wp2_with fail
      go_cut [] from 14 to 23 (fun wx => ∃ sm' cm' N', Hid (MkI w wx w.heap.size (k + 1) k sm' cm' sh ch N'))
      case first =>
        go_region_law (first | (go_simp; go_at_call 21; refine (rat_new _).mono ?_; rintro e w1 ⟨q, F, rfl, hA, hF, hb1⟩; have HM1 : Hid (MkI w w1 w.heap.size k k sm cm sh ch N) := HRd.out.on hb1; obtain ⟨d0, d1, g0, g1⟩ := HM1.out.c0; have HM2 : Hid (MkI w (w1.alloc (.cells #[bptr q] 38)) w.heap.size k k sm cm sh ch N) := HM1.out.on ((Below.refl _ _).alloc (Nat.le_refl _) _); obtain ⟨d2, d3, g2, g3⟩ := HM2.out.c0; obtain ⟨qr, hR, eF⟩ := hA; have HR2 : Hid (RMac (w1.alloc (.cells #[bptr q] 38)) q qr Mm.fresh ∧ wr.heap.size ≤ q ∧ wr.heap.size ≤ qr ∧ q < (w1.alloc (.cells #[bptr q] 38)).heap.size) := mk_two hR hF eF; clear hF hb1 hR eF HM1) | (refine step_append_lies (P := Tryz.prog) _ rfl (.tmp 18) (.tmp 20) 29 rfl w.heap.size 38 i1 (.pointer none) 1 8 Tryz.underlying29 HI1.out.1 HI1.out.2.1 HI1.out.2.2.1 HI1.out.2.2.2 rfl (by decide) (.slice sm k cm) k (N.map (fun x => bptr x.q)) rfl HM2.out.om ⟨w1.heap.size, 0, none⟩ 1 1 [bptr q] rfl rfl (cell_one_new _ _ _) (by simp [Value.oneCell']) (by decide) (by simp only [maxLen]; omega) (by omega) HM2.out.below.size _ rfl ?_; intro g c w3 hown hg hat hgl; have HM3 : Hid (MkI w (w3.setCell ⟨w.heap.size, 0, none⟩ (.slice (some ⟨g, 0, none⟩) (k + 1) c)) w.heap.size (k + 1) k (some ⟨g, 0, none⟩) c sh ch (N ++ [⟨q, qr, none, 0, Mm.fresh, []⟩])) := mk_addM HM2.out HBl.out HR2.out HR.out.below.size hown hg hat hgl; obtain ⟨d4, g4⟩ := mk_c0 HM2.out hg; clear hown hg hat hgl))
        all_goals
          go_wp2_with fail
          go_meet
          case rel => exact ⟨_, _, _, HM3⟩
      case rest =>
        obtain ⟨sm', cm', N', HM⟩ := hcut
        have HMa : Hid (MkI w (wc.alloc (.cells #[.slice none 0 0] 43)) w.heap.size (k + 1) k sm' cm' sh ch N') := HM.out.on ((Below.refl _ _).alloc (Nat.le_refl _) _)
        obtain ⟨e0, e1, h0, h1⟩ := HM.out.c0
        obtain ⟨e2, e3, h2, h3⟩ := HMa.out.c0
        clear c0 c1 f0 f1 HR HRd HBl
        go_wp2_with (refine wpList_append_lies (P := Tryz.prog) _ rfl (.tmp 28) (.tmp 29) 30 rfl w.heap.size 43 i2 (.slice none 0 0) 1 24 Tryz.underlying30 HI2.out.1 HI2.out.2.1 HI2.out.2.2.1 HI2.out.2.2.2 rfl (by decide) (.slice sh k ch) k (List.replicate k (.slice none 0 0)) rfl HMa.out.oh ⟨wc.heap.size, 0, none⟩ 1 1 [.slice none 0 0] rfl rfl (cell_one_new _ _ _) (by simp [Value.oneCell']) (by decide) (by simp only [maxLen]; omega) (by omega) HMa.out.below.size _ rfl ?_; intro g c w3 hown hg hat hgl; have HM3 : Hid (MkI w (w3.setCell ⟨w.heap.size, 1, none⟩ (.slice (some ⟨g, 0, none⟩) (k + 1) c)) w.heap.size (k + 1) (k + 1) sm' cm' (some ⟨g, 0, none⟩) c N') := mk_addH HMa.out hown hg hat hgl; obtain ⟨e4, h4⟩ := mk_c1 HMa.out hg; clear hown hg hat hgl)
        go_roundw
        case rel => exact ⟨k + 1, _, _, _, _, _, by omega, rfl, HM3⟩
        case measure => simp only [intOf]; omega
    · obtain rfl : k = K := by omega
      go_wp2
      go_ret
      exact ⟨sm, cm, sh, ch, N, rfl, HR.out⟩
end Go.Proofs.YthkaekpoicodeaaGreatDoor
