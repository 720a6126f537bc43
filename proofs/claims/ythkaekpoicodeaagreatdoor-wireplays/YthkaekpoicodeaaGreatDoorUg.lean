/- Laws of the walk: events copied, made, cut off at the front; a list of events with no room behind it laid anew. -/
import Derived.Test.YthkaekpoicodeaaGreatDoorUi
import Derived.Test.YthkaekpoicodeaaGreatDoorNe
import Derived.Test.YthkaekpoicodeaaGreatDoorU2
import Derived.Laws.CopyOwn
import Derived.Deep.AppendSrc
import Derived.Test.YthkaekpoicodeaaGreatDoorUc
import Derived.Test.YthkaekpoicodeaaGreatDoorUf
import Derived.Test.YthkaekpoicodeaaGreatDoorH1
namespace Go.Proofs.YthkaekpoicodeaaGreatDoor
open Go.RowKit
set_option linter.unusedVariables false
/-- copy(x, y) of elements of k cells, the whole of x. -/
theorem run_copyK {P : Program} (w : World) (dT sT ty elem : TypeId) (k : Nat) (g dLen dCap : Nat) (sp : Option Addr) (sLen sCap n : Nat) (cur : Array Value) (t : TypeId) (cs : List Value)
    (hu : P.underlying dT = some (.slice elem)) (hs : (P.info? elem).map (·.size) = some k) (hg : w.heap[g]? = some (.cells cur t (0, 0))) (hn : Nat.min sLen dLen = n) (hl : cs.length = n * k)
    (hsrc : 0 < n → ∃ ad, sp = some ad ∧ ∀ j v, cs[j]? = some v → w.cell? (ad.add j) = some v) (hfit : cur.size = cs.length) (h1 : ∀ v ∈ cs, v.oneCell' = true) :
    (Builtin.copy_ #[dT, sT] ty #[.slice (some ⟨g, 0, none⟩) dLen dCap, .slice sp sLen sCap]).run P w = .ok (goInt n) (w.setRow g cs.toArray) := by
  have hf : (Builtin.firstCells k n (.slice sp sLen sCap)).run P w = .ok cs.toArray w := by
    by_cases h0 : n = 0
    · subst h0
      obtain rfl : cs = [] := List.eq_nil_of_length_eq_zero (by omega)
      cases sp with
      | none => exact run_firstCells_none w k 0 sLen sCap
      | some a => exact run_firstCells_some w k 0 a sLen sCap [] (by simp) (fun j v h => by simp at h)
    · obtain ⟨ad, rfl, hc⟩ := hsrc (by omega)
      exact run_firstCells_some w k n ad sLen sCap cs hl hc
  have hst := run_storeCells_at P g 0 t cs 0 cur w hg (by simp [hfit]) h1
  have e : (cur.toList.take (0 + 0) ++ cs ++ cur.toList.drop (0 + 0 + cs.length)).toArray = cs.toArray := by
    congr 1
    rw [List.drop_eq_nil_of_le (by simp [hfit])]
    simp
  rw [e] at hst
  cases hq : P.info? elem with
  | none => simp [hq] at hs
  | some i =>
    have hi : i.size = k := by simpa [hq] using hs
    simp [Builtin.copy_, run_underlying hu, Builtin.lenOf, sizeOf, typeInfo, hq, hi, hn, hf, hst]
theorem wpList_copyK {P : Program} {w : World} {ops : Array Oper} {rest : List Oper} {o : Oper} {a : Act} {Q : Exit → Act → World → Prop} (hgd : o.guard = none) (d s : Operand) (dT sT : TypeId)
    (ho : o.op = .call { callee := .builtin .copy, args := #[d, s], argTypes := #[dT, sT] }) (elem : TypeId) (k : Nat) (hu : P.underlying dT = some (.slice elem)) (hsz : (P.info? elem).map (·.size) = some k)
    (g : Nat) (sp : Option Addr) (dLen dCap sLen sCap n : Nat) (hd : a.eval d = .slice (some ⟨g, 0, none⟩) dLen dCap) (hs : a.eval s = .slice sp sLen sCap) (cur : Array Value) (t : TypeId) (hg : w.heap[g]? = some (.cells cur t (0, 0))) (cs : List Value) (hn : Nat.min sLen dLen = n) (hl : cs.length = n * k)
    (hsrc : 0 < n → ∃ ad, sp = some ad ∧ ∀ j v, cs[j]? = some v → w.cell? (ad.add j) = some v) (hfit : cur.size = cs.length) (h1 : ∀ v ∈ cs, v.oneCell' = true) (B : Nat) (w0 : World) (hb : Below B w0 w) (hBg : B ≤ g)
    (h : ∀ w', Hid (w'.heap[g]? = some (.cells cs.toArray t (0, 0))) → Below B w0 w' → wpList P ops Q rest (a.put o.dst (goInt n)) w') :
    wpList P ops Q (o :: rest) a w := by
  refine wpList_plain hgd fun K hK => ?_
  have hrun := run_copyK (P := P) w dT sT o.type elem k g dLen dCap sp sLen sCap n cur t cs hu hsz hg hn hl hsrc hfit h1
  unfold Oper.wp
  simp [execOp, ho, resolve, invoke, builtin, hd, hs, hrun, Result.andThen]
  exact hK _ _ (h _ (show _ = _ from setRow_heap w g _ _ t _ hg) (below_setRow hb hBg _))
/-- x[l:] of a slice of elements of k cells. -/
theorem run_sliceK {P : Program} (t e : TypeId) (k : Nat) (ht : P.underlying t = some (.slice e)) (hz : (P.info? e).map (·.size) = some k) (s : Option Addr) (hs0 : ∀ q, s = some q → q.off = 0 ∧ q.spot = none) (len cap : Nat) (x : Int) (l : Nat) (hx : x = (l : Int)) (hl : l ≤ len) (hc : len ≤ cap) :
    ∃ dp, (∀ W, (Instr.slice t (.slice s len cap) (some (.int .i64 x)) none none).run P W = .ok (.slice dp (len - l) (cap - l)) W) ∧ (l < len → dp = s.map (fun q => ⟨q.block, l * k, none⟩)) := by
  have ee : P.elem t = e := by simp [Program.elem, ht]
  have ht' : P.underlying t = some (.slice (P.elem t)) := by rw [ee]; exact ht
  subst hx
  refine ⟨if cap = l then s else s.map (·.add (l * k)), fun W => ?_, fun h => ?_⟩
  · rw [run_slice_l (P := P) W t s len cap ht' .i64 (l : Int) (by omega) (by omega)]
    rw [ee]
    cases hq : P.info? e with
    | none => simp [hq] at hz
    | some i =>
      have hs : i.size = k := by simpa [hq] using hz
      simp [sizeOf, typeInfo, hq, hs, sliced]
  · rw [if_neg (by omega)]
    cases s with
    | none => rfl
    | some q =>
      obtain ⟨h1, h2⟩ := hs0 q rfl
      cases q with
      | mk b o sp =>
        dsimp only at h1 h2
        subst h1 h2
        simp [Addr.add]
        exact fun h => h.symm
/-- make([]api.Event, n). -/
theorem run_makeEv (x : Int) (n : Nat) (hx : x = (n : Int)) (hn : n ≤ 1000) (W : World) :
    (Instr.makeSlice 43 (.int .i64 x) (.int .i64 x)).run Tryz.prog W = .ok (.slice (some ⟨W.heap.size, 0, none⟩) n n) (W.alloc (.cells (madeCells #[.int .i64 0, .bool false, .int .u32 0, .bool false, .string ⟨#[]⟩, .int .i64 0] (n * 6)) 60)) := by
  obtain ⟨i0, hi, hz0, hz1, hz2⟩ := info_parts evInfo
  subst hx
  have h := run_make (P := Tryz.prog) W 43 60 i0 _ Tryz.underlying43 hi hz0 .i64 .i64 (n : Int) (n : Int) (by omega) (Int.le_refl _) (by rw [hz2]; omega) (by omega)
  rw [h]
  simp only [Int.toNat_natCast, hz1]
  rfl
/-- append(a, b...) of events where a has no room and b is not empty: a new list, all that was there as it was. -/
theorem run_append_new (ty : TypeId) {B B2 : Nat} {w : World} {s s2 : Option Addr} {cap2 : Nat} {l l2 : List Mm.Ev} (h : EvAt B w s l.length l) (h2 : EvAt B2 w s2 cap2 l2) (h0 : l2 ≠ []) (hl : l.length + l2.length ≤ 1000) (hl1 : l.length ≤ 200) :
    ∃ cap' w', (Builtin.append_ #[43, 43] ty #[.slice s l.length l.length, .slice s2 l2.length cap2]).run Tryz.prog w = .ok (.slice (some ⟨w.heap.size, 0, none⟩) (l.length + l2.length) cap') w' ∧ EvAt w.heap.size w' (some ⟨w.heap.size, 0, none⟩) cap' (l ++ l2) ∧
      Below w.heap.size w w' := by
  obtain ⟨s', cap', w', hr, hE, hg, hp⟩ := run_append_ev ty (h.base (Nat.zero_le _)) h2 (Nat.zero_le _) hl
  obtain ⟨i0, hi, hz0, hz1, hz2⟩ := info_parts evInfo
  obtain ⟨g2, rfl, hB2, hlt2, hcap2, hmax2, hc2⟩ := h2.spot h0
  have hpos : 0 < l2.length := List.length_pos_iff.2 h0
  have hsrc : Src Tryz.prog i0.size 43 (.slice (some ⟨g2, 0, none⟩) l2.length cap2) l2.length (evC l2) w :=
    Src.ofSlice w Tryz.underlying43 _ l2.length cap2 (evC l2) (by rw [hz1]; exact evC_length l2) (fun j u hu => by
      have hadd : (⟨g2, 0, none⟩ : Addr).add j = ⟨g2, j, none⟩ := by unfold Addr.add; split <;> simp_all
      rw [hadd]; exact hc2 j u hu) (evC_one l2)
  have hold : (Builtin.firstCells i0.size l.length (.slice s l.length l.length)).run Tryz.prog w.drew = .ok (evC l).toArray w.drew := by
    by_cases h9 : l = []
    · subst h9
      cases s with
      | none => exact run_firstCells_none w.drew _ 0 0 0
      | some a => exact run_firstCells_some w.drew _ 0 a 0 0 [] (by simp) (fun j v h => by simp at h)
    · obtain ⟨g, rfl, hB, hlt, hcap, hmax, hc⟩ := h.spot h9
      exact run_firstCells_some w.drew _ _ _ _ _ (evC l) (by rw [hz1]; exact evC_length l) (fun j u hu => by
        have hadd : (⟨g, 0, none⟩ : Addr).add j = ⟨g, j, none⟩ := by unfold Addr.add; split <;> simp_all
        rw [hadd]; exact hc j u hu)
  have hcp : Builtin.nextslicecap (l.length + l2.length) l.length ≤ 100000 := by
    have hd : l.length + l2.length ≤ 1000 := hl
    unfold Builtin.nextslicecap
    repeat' split
    all_goals first | omega | skip
  have hr2 := run_append_grow_src (P := Tryz.prog) w 43 43 ty 60 i0 _ Tryz.underlying43 hi hz0 s l.length l.length (evC l) hold _ l2.length (evC l2) hsrc (by omega) (by omega) (by rw [hz2]; omega)
  rw [hr] at hr2
  injection hr2 with hv hw
  injection hv with hs1 hs2 hs3
  subst hs1 hw
  refine ⟨cap', _, hr, ?_, ((Below.refl _ _).drew).alloc (Nat.le_refl _) _⟩
  refine ⟨hE.1, ?_⟩
  rcases hE.2 with ⟨k1, _⟩ | ⟨g, c, cur, hv, hg, r⟩
  · injection k1 with k; cases k
  · have hv' := hv
    injection hv' with k
    injection k with k
    injection k with k
    exact Or.inr ⟨g, c, cur, hv, by omega, r⟩
theorem wpList_append_new {ops : Array Oper} {rest : List Oper} {o : Oper} {a : Act} {w : World} {Q : Exit → Act → World → Prop} (hgd : o.guard = none) (x y : Operand) (ho : o.op = .call { callee := .builtin .append, args := #[x, y], argTypes := #[43, 43] })
    {B B2 : Nat} {s s2 : Option Addr} {n n2 cap2 : Nat} {l l2 : List Mm.Ev} (hx : a.eval x = .slice s n n) (hy : a.eval y = .slice s2 n2 cap2) (hn : n = l.length) (hn2 : n2 = l2.length) (h : EvAt B w s l.length l) (h2 : EvAt B2 w s2 cap2 l2) (h0 : l2 ≠ []) (hl : l.length + l2.length ≤ 1000) (hl1 : l.length ≤ 200)
    (hk : ∀ cap' w', EvAt w.heap.size w' (some ⟨w.heap.size, 0, none⟩) cap' (l ++ l2) → Below w.heap.size w w' → wpList Tryz.prog ops Q rest (a.put o.dst (.slice (some ⟨w.heap.size, 0, none⟩) (l ++ l2).length cap')) w') : wpList Tryz.prog ops Q (o :: rest) a w := by
  subst hn hn2
  obtain ⟨c', w', hr, h4, h5⟩ := run_append_new o.type h h2 h0 hl hl1
  refine wpList_plain hgd fun K hK => ?_
  unfold Oper.wp execOp
  simp only [ho, resolve, invoke, builtin, Sem.run_bind, Sem.run_pure, Result.andThen_ok, List.map_toArray, List.map_cons, List.map_nil, hx, hy, hr]
  have := hk c' w' h4 h5
  rw [List.length_append] at this
  exact hK _ _ this
end Go.Proofs.YthkaekpoicodeaaGreatDoor
/- Package wire, over the landed code: where a wire's nodes lie, and what stays when one of them is written; latest. -/
namespace Go.Proofs.YthkaekpoicodeaaGreatDoor
open Go.RowKit
set_option linter.unusedVariables false
theorem set_same {α : Type} {l : List α} {i : Nat} {a : α} (h : l[i]? = some a) : l.set i a = l := by
  apply List.ext_getElem?
  intro j
  by_cases e : i = j
  · subst e
    rw [List.getElem?_set_self (List.getElem?_eq_some_iff.1 h).1, h]
  · rw [List.getElem?_set_ne e]
/-- A node of the wire: its Mac's block, where what it heard lies, its plain state, what it heard. -/
structure Nd where
  q : Nat
  s : Option Addr
  m : Mm.St
  h : List Mm.Ev
def ndV (x : Nd) : List Value := [bptr x.q, .slice x.s x.h.length x.h.length]
def ndC (N : List Nd) : List Value := N.flatMap ndV
theorem ndC_length (N : List Nd) : (ndC N).length = N.length * 2 := by
  unfold ndC
  induction N with
  | nil => rfl
  | cons a l ih => rw [List.flatMap_cons, List.length_append, ih, List.length_cons]; show 2 + _ = _; omega
theorem ndC_get (N : List Nd) (i : Nat) (x : Nd) (h : N[i]? = some x) : (ndC N)[i * 2]? = some (bptr x.q) ∧ (ndC N)[i * 2 + 1]? = some (.slice x.s x.h.length x.h.length) := by
  induction N generalizing i with
  | nil => simp at h
  | cons a l ih =>
    have e : ndC (a :: l) = ndV a ++ ndC l := rfl
    rw [e]
    cases i with
    | zero =>
      have h' : a = x := by simpa using h
      subst h'
      exact ⟨rfl, rfl⟩
    | succ i =>
      have := ih i (by simpa using h)
      rw [show (i + 1) * 2 = i * 2 + 2 by omega]
      exact ⟨by rw [List.getElem?_append_right (by show 2 ≤ _; omega)]; exact this.1, by rw [List.getElem?_append_right (by show 2 ≤ _; omega), show i * 2 + 2 + 1 - (ndV a).length = i * 2 + 1 from rfl]; exact this.2⟩
theorem ndC_set1 (N : List Nd) (i : Nat) (x : Nd) (h : N[i]? = some x) (s : Option Addr) (m : Mm.St) (k : List Mm.Ev) : (ndC N).set (i * 2 + 1) (.slice s k.length k.length) = ndC (N.set i ⟨x.q, s, m, k⟩) := by
  induction N generalizing i with
  | nil => simp at h
  | cons a l ih =>
    have e : ndC (a :: l) = ndV a ++ ndC l := rfl
    cases i with
    | zero =>
      have h' : a = x := by simpa using h
      subst h'
      rfl
    | succ i =>
      rw [show (i + 1) * 2 + 1 = i * 2 + 1 + 2 by omega, List.set_cons_succ]
      show (ndV a ++ ndC l).set _ _ = ndV a ++ ndC (l.set i _)
      rw [List.set_append_right _ _ (by show 2 ≤ _; omega), ← ih i (by simpa using h)]
      rfl
theorem ndC_set0 (N : List Nd) (i : Nat) (x : Nd) (h : N[i]? = some x) (q : Nat) (m : Mm.St) : (ndC N).set (i * 2) (bptr q) = ndC (N.set i ⟨q, x.s, m, x.h⟩) := by
  induction N generalizing i with
  | nil => simp at h
  | cons a l ih =>
    have e : ndC (a :: l) = ndV a ++ ndC l := rfl
    cases i with
    | zero =>
      have h' : a = x := by simpa using h
      subst h'
      rfl
    | succ i =>
      rw [show (i + 1) * 2 = i * 2 + 2 by omega, List.set_cons_succ]
      show (ndV a ++ ndC l).set _ _ = ndV a ++ ndC (l.set i _)
      rw [List.set_append_right _ _ (by show 2 ≤ _; omega), ← ih i (by simpa using h)]
      rfl
theorem ndC_setM (N : List Nd) (i : Nat) (x : Nd) (h : N[i]? = some x) (m : Mm.St) : ndC (N.set i ⟨x.q, x.s, m, x.h⟩) = ndC N := by
  rw [← ndC_set0 N i x h]
  exact set_same (ndC_get N i x h).1
/-- A row of events that lies in a block of its own, or none. -/
def EvB (w : World) (s : Option Addr) (l : List Mm.Ev) : Prop := EvAt 0 w s l.length l ∧ l.length ≤ 100
/-- The wire's blocks. -/
structure WI (w : World) (p gn qb : Nat) (N : List Nd) (bs : List Bool) (fl : Bool) : Prop where
  head : w.heap[p]? = some (.cells #[.slice (some ⟨gn, 0, none⟩) N.length N.length, bptr qb] 63 (0, 0))
  row : w.heap[gn]? = some (.cells (ndC N).toArray 66 (0, 0))
  mac : ∀ x ∈ N, MacAt w x.q (fun g => g = x.q) x.m
  ev : ∀ x ∈ N, EvB w x.s x.h
  bus : BusAt w qb (fun g => g = qb) bs fl
  nod : (N.map (·.q)).Nodup
  lo : 1 ≤ N.length
  hi : N.length ≤ 8
/-- The blocks that are its own. -/
def fpw (p gn qb : Nat) (N : List Nd) (g : Nat) : Prop := g = p ∨ g = gn ∨ g = qb ∨ ∃ x ∈ N, x.q = g ∨ ∃ o, x.s = some ⟨g, o, none⟩
def tyAt (w : World) (g : Nat) (t : TypeId) : Prop := ∃ c, w.heap[g]? = some (.cells c t (0, 0))
theorem ty_ne {w : World} {a b : Nat} {s t : TypeId} (h1 : tyAt w a s) (h2 : tyAt w b t) (h : s ≠ t) : a ≠ b := by
  rintro rfl
  obtain ⟨c, h1⟩ := h1
  obtain ⟨d, h2⟩ := h2
  rw [h1] at h2
  injection h2 with k
  injection k with _ k
  exact h k
theorem tyAt.lt {w : World} {g : Nat} {t : TypeId} (h : tyAt w g t) : g < w.heap.size := by
  obtain ⟨c, h⟩ := h
  exact (Array.getElem?_eq_some_iff.1 h).1
theorem MacAt.ty {w : World} {q : Nat} {F : Nat → Prop} {m : Mm.St} (h : MacAt w q F m) : tyAt w q 79 := ⟨_, h.2.2.2⟩
theorem MacAt.onB {w w' : World} {q : Nat} {F : Nat → Prop} {m : Mm.St} (h : MacAt w q F m) (e : w'.heap[q]? = w.heap[q]?) : MacAt w' q F m := macSpec.on h (fun g hg => by rw [h.1] at hg; subst hg; exact e)
theorem BusAt.ty {w : World} {q : Nat} {F : Nat → Prop} {bs : List Bool} {fl : Bool} (h : BusAt w q F bs fl) : tyAt w q 82 := by
  obtain ⟨_, rg, hR, _⟩ := h
  exact ⟨_, hR.1⟩
theorem BusAt.onB {w w' : World} {q : Nat} {F : Nat → Prop} {bs : List Bool} {fl : Bool} (h : BusAt w q F bs fl) (e : w'.heap[q]? = w.heap[q]?) : BusAt w' q F bs fl := busSpec.on h (fun g hg => by rw [h.1] at hg; subst hg; exact e)
theorem EvB.ty {w : World} {s : Option Addr} {l : List Mm.Ev} (h : EvB w s l) {g o : Nat} (hs : s = some ⟨g, o, none⟩) : tyAt w g 60 := by
  subst hs
  rcases h.1.2 with ⟨h1, _⟩ | ⟨g', c, cur, hv, hB, hh, _⟩
  · injection h1 with a; cases a
  · injection hv with a
    injection a with a
    injection a with a1 a2
    subst a1
    exact ⟨_, hh⟩
theorem EvB.onB {w w' : World} {s : Option Addr} {l : List Mm.Ev} (h : EvB w s l) (e : ∀ g o, s = some ⟨g, o, none⟩ → w'.heap[g]? = w.heap[g]?) : EvB w' s l := ⟨h.1.on e, h.2⟩
theorem WI.on {w w' : World} {p gn qb : Nat} {N : List Nd} {bs : List Bool} {fl : Bool} (h : WI w p gn qb N bs fl) (e : ∀ g, fpw p gn qb N g → w'.heap[g]? = w.heap[g]?) : WI w' p gn qb N bs fl where
  head := (e p (Or.inl rfl)).trans h.head
  row := (e gn (Or.inr (Or.inl rfl))).trans h.row
  mac := fun x hx => (h.mac x hx).onB (e _ (Or.inr (Or.inr (Or.inr ⟨x, hx, Or.inl rfl⟩))))
  ev := fun x hx => (h.ev x hx).onB (fun g o hs => e _ (Or.inr (Or.inr (Or.inr ⟨x, hx, Or.inr ⟨o, hs⟩⟩))))
  bus := h.bus.onB (e qb (Or.inr (Or.inr (Or.inl rfl))))
  nod := h.nod
  lo := h.lo
  hi := h.hi
theorem WI.lt {w : World} {p gn qb : Nat} {N : List Nd} {bs : List Bool} {fl : Bool} (h : WI w p gn qb N bs fl) : ∀ g, fpw p gn qb N g → g < w.heap.size := by
  rintro g (rfl | rfl | rfl | ⟨x, hx, rfl | ⟨o, hs⟩⟩)
  · exact (Array.getElem?_eq_some_iff.1 h.head).1
  · exact (Array.getElem?_eq_some_iff.1 h.row).1
  · exact h.bus.ty.lt
  · exact (h.mac x hx).ty.lt
  · exact ((h.ev x hx).ty hs).lt
theorem WI.below {w w' : World} {p gn qb : Nat} {N : List Nd} {bs : List Bool} {fl : Bool} (h : WI w p gn qb N bs fl) (hb : Below w.heap.size w w') : WI w' p gn qb N bs fl := h.on (fun g hg => hb.block g (h.lt g hg))
theorem ty_wn : (63 : TypeId) ≠ 66 ∧ (63 : TypeId) ≠ 79 ∧ (63 : TypeId) ≠ 82 ∧ (66 : TypeId) ≠ 79 ∧ (66 : TypeId) ≠ 82 ∧ (79 : TypeId) ≠ 82 ∧ (60 : TypeId) ≠ 79 ∧ (60 : TypeId) ≠ 82 ∧ (60 : TypeId) ≠ 66 ∧ (60 : TypeId) ≠ 63 := by decide
theorem mem_setN {N : List Nd} {i : Nat} {x y z : Nd} (hx : N[i]? = some x) (hz : z ∈ N.set i y) : z = y ∨ ∃ j, j ≠ i ∧ N[j]? = some z := by
  obtain ⟨j, hj⟩ := List.getElem?_of_mem hz
  by_cases e : i = j
  · subst e
    rw [List.getElem?_set_self (List.getElem?_eq_some_iff.1 hx).1] at hj
    exact Or.inl (by injection hj with hj; exact hj.symm)
  · rw [List.getElem?_set_ne e] at hj
    exact Or.inr ⟨j, fun k => e k.symm, hj⟩
theorem nod_ne {N : List Nd} {i j : Nat} {x z : Nd} (h : (N.map (·.q)).Nodup) (hx : N[i]? = some x) (hz : N[j]? = some z) (hne : j ≠ i) : z.q ≠ x.q := by
  intro e
  have h1 : (N.map (·.q))[i]? = some x.q := by rw [List.getElem?_map, hx]; rfl
  have h2 : (N.map (·.q))[j]? = some x.q := by rw [List.getElem?_map, hz]; show some z.q = _; rw [e]
  have hi := (List.getElem?_eq_some_iff.1 h1).1
  exact hne ((List.getElem?_inj hi h).1 (h1.trans h2.symm)).symm
/-- One node's Mac went on. -/
theorem WI.setM {w w' : World} {p gn qb : Nat} {N : List Nd} {bs : List Bool} {fl : Bool} (h : WI w p gn qb N bs fl) {i : Nat} {x : Nd} (hx : N[i]? = some x) {m : Mm.St} (hk : Kept (fun g => g = x.q) w w') (hm : MacAt w' x.q (fun g => g = x.q) m) :
    WI w' p gn qb (N.set i ⟨x.q, x.s, m, x.h⟩) bs fl := by
  obtain ⟨t1, t2, t3, t4, t5, t6, t7, t8, t9, t10⟩ := ty_wn
  have hmx := List.mem_of_getElem? hx
  have tx := (h.mac x hmx).ty
  have blk : ∀ g t, tyAt w g t → t ≠ 79 → w'.heap[g]? = w.heap[g]? := fun g t hg ht => hk.block g hg.lt (fun e => ty_ne hg tx ht e)
  constructor
  · rw [List.length_set]; exact (blk p _ ⟨_, h.head⟩ t2).trans h.head
  · rw [ndC_setM N i x hx]; exact (blk gn _ ⟨_, h.row⟩ t4).trans h.row
  · intro z hz
    rcases mem_setN hx hz with rfl | ⟨j, hj, hz'⟩
    · exact hm
    · have hzm := h.mac z (List.mem_of_getElem? hz')
      exact hzm.onB (hk.block _ hzm.ty.lt (nod_ne h.nod hx hz' hj))
  · intro z hz
    have : ∃ y ∈ N, y.s = z.s ∧ y.h = z.h := by
      rcases mem_setN hx hz with rfl | ⟨j, hj, hz'⟩
      · exact ⟨x, hmx, rfl, rfl⟩
      · exact ⟨z, List.mem_of_getElem? hz', rfl, rfl⟩
    obtain ⟨y, hy, e1, e2⟩ := this
    rw [← e1, ← e2]
    exact (h.ev y hy).onB (fun g o hs => blk g _ ((h.ev y hy).ty hs) t7)
  · exact h.bus.onB (blk qb _ h.bus.ty (fun e => t6 e.symm))
  · rw [List.map_set]
    show ((N.map (·.q)).set i x.q).Nodup
    rw [set_same (by rw [List.getElem?_map, hx]; rfl)]
    exact h.nod
  · rw [List.length_set]; exact h.lo
  · rw [List.length_set]; exact h.hi
/-- What one node heard is laid anew. -/
theorem WI.setH {w : World} {p gn qb : Nat} {N : List Nd} {bs : List Bool} {fl : Bool} (h : WI w p gn qb N bs fl) {i : Nat} {x : Nd} (hx : N[i]? = some x) {s : Option Addr} {k : List Mm.Ev} (hE : EvB w s k) :
    WI (w.setCell ⟨gn, i * 2 + 1, none⟩ (.slice s k.length k.length)) p gn qb (N.set i ⟨x.q, s, x.m, k⟩) bs fl := by
  obtain ⟨t1, t2, t3, t4, t5, t6, t7, t8, t9, t10⟩ := ty_wn
  have hmx := List.mem_of_getElem? hx
  have blk : ∀ g t, tyAt w g t → t ≠ 66 → (w.setCell ⟨gn, i * 2 + 1, none⟩ (.slice s k.length k.length)).heap[g]? = w.heap[g]? := fun g t hg ht => heap_setCell_other _ ⟨gn, i * 2 + 1, none⟩ g _ (ty_ne hg ⟨_, h.row⟩ ht)
  constructor
  · rw [List.length_set]; exact (blk p _ ⟨_, h.head⟩ t1).trans h.head
  · rw [heap_setCell_same _ _ _ _ _ _ h.row, List.setIfInBounds_toArray, ndC_set1 N i x hx]
  · intro z hz
    have : ∃ y ∈ N, y.q = z.q ∧ y.m = z.m := by
      rcases mem_setN hx hz with rfl | ⟨j, hj, hz'⟩
      · exact ⟨x, hmx, rfl, rfl⟩
      · exact ⟨z, List.mem_of_getElem? hz', rfl, rfl⟩
    obtain ⟨y, hy, e1, e2⟩ := this
    rw [← e1, ← e2]
    exact (h.mac y hy).onB (blk _ _ (h.mac y hy).ty (fun e => t4 e.symm))
  · intro z hz
    rcases mem_setN hx hz with rfl | ⟨j, hj, hz'⟩
    · exact hE.onB (fun g o hs => blk g _ (hE.ty hs) t9)
    · have hy := List.mem_of_getElem? hz'
      exact (h.ev z hy).onB (fun g o hs => blk g _ ((h.ev z hy).ty hs) t9)
  · exact h.bus.onB (blk qb _ h.bus.ty (fun e => t5 e.symm))
  · rw [List.map_set]
    show ((N.map (·.q)).set i x.q).Nodup
    rw [set_same (by rw [List.getElem?_map, hx]; rfl)]
    exact h.nod
  · rw [List.length_set]; exact h.lo
  · rw [List.length_set]; exact h.hi
/-- The bus went on. -/
theorem WI.setB {w w' : World} {p gn qb : Nat} {N : List Nd} {bs : List Bool} {fl : Bool} (h : WI w p gn qb N bs fl) {bs' : List Bool} {fl' : Bool} (hk : Kept (fun g => g = qb) w w') (hB : BusAt w' qb (fun g => g = qb) bs' fl') : WI w' p gn qb N bs' fl' := by
  obtain ⟨t1, t2, t3, t4, t5, t6, t7, t8, t9, t10⟩ := ty_wn
  have blk : ∀ g t, tyAt w g t → t ≠ 82 → w'.heap[g]? = w.heap[g]? := fun g t hg ht => hk.block g hg.lt (fun e => ty_ne hg h.bus.ty ht e)
  exact ⟨(blk p _ ⟨_, h.head⟩ t3).trans h.head, (blk gn _ ⟨_, h.row⟩ t5).trans h.row, fun x hx => (h.mac x hx).onB (blk _ _ (h.mac x hx).ty t6), fun x hx => (h.ev x hx).onB (fun g o hs => blk g _ ((h.ev x hx).ty hs) t8), hB, h.nod, h.lo, h.hi⟩
theorem WI.c0 {w : World} {p gn qb : Nat} {N : List Nd} {bs : List Bool} {fl : Bool} (h : WI w p gn qb N bs fl) : w.cell? ⟨p, 0, none⟩ = some (.slice (some ⟨gn, 0, none⟩) N.length N.length) := by rw [cell_of_row _ _ _ _ _ _ h.head]; rfl
theorem WI.c1 {w : World} {p gn qb : Nat} {N : List Nd} {bs : List Bool} {fl : Bool} (h : WI w p gn qb N bs fl) : w.cell? ⟨p, 1, none⟩ = some (bptr qb) := by rw [cell_of_row _ _ _ _ _ _ h.head]; rfl
theorem WI.n0 {w : World} {p gn qb : Nat} {N : List Nd} {bs : List Bool} {fl : Bool} (h : WI w p gn qb N bs fl) {i : Nat} {x : Nd} (hx : N[i]? = some x) : w.cell? ⟨gn, i * 2, none⟩ = some (bptr x.q) := by rw [cell_of_row _ _ _ _ _ _ h.row, List.getElem?_toArray]; exact (ndC_get N i x hx).1
theorem WI.n1 {w : World} {p gn qb : Nat} {N : List Nd} {bs : List Bool} {fl : Bool} (h : WI w p gn qb N bs fl) {i : Nat} {x : Nd} (hx : N[i]? = some x) : w.cell? ⟨gn, i * 2 + 1, none⟩ = some (.slice x.s x.h.length x.h.length) := by rw [cell_of_row _ _ _ _ _ _ h.row, List.getElem?_toArray]; exact (ndC_get N i x hx).2
theorem WI.nf {w : World} {p gn qb : Nat} {N : List Nd} {bs : List Bool} {fl : Bool} (h : WI w p gn qb N bs fl) (k : Nat) : w.frozen? ⟨gn, k, none⟩ = false := frozen_of_row _ _ _ _ _ h.row
theorem evInfo1 : (Tryz.prog.info? 60).map (·.size) = some 6 := by kernel_rfl
set_option maxRecDepth 100000 in
set_option maxHeartbeats 1000000 in
/-- latest: the last hundred, as a list of its own. -/
theorem latest_any {B : Nat} (w : World) (s : Option Addr) (cap : Nat) (l : List Mm.Ev) (n0 : Nat) (hn0 : n0 = l.length) (h : EvAt B w s cap l) (hl : l.length ≤ 1000) :
    Calls Tryz.prog 32 #[.slice s n0 cap] w fun e w' => e = .returned (.slice (some ⟨w.heap.size, 0, none⟩) (Mm.lst l).length (Mm.lst l).length) ∧ EvAt w.heap.size w' (some ⟨w.heap.size, 0, none⟩) (Mm.lst l).length (Mm.lst l) ∧ Below w.heap.size w w' := by
  subst hn0
  obtain ⟨L, hL⟩ : ∃ L, (Mm.lst l).length = L := ⟨_, rfl⟩
  have hLm : L = min l.length 100 := by rw [← hL]; unfold Mm.lst; rw [List.length_drop]; omega
  have hLn : L ≤ l.length := by omega
  have e1 : min (l.length : Int) 100 = (L : Int) := by omega
  have hmk := fun W => run_makeEv (L : Int) L rfl (by omega) W
  obtain ⟨dp, hsl, hdp⟩ := run_sliceK (P := Tryz.prog) 43 60 6 Tryz.underlying43 evInfo1 s (fun q hq => by
    have k := h.plain q hq
    cases q with
    | mk b o sp =>
      dsimp only at k
      subst k
      exact ⟨(h.zero b o hq).1, rfl⟩) l.length cap ((l.length : Int) - (L : Int)) (l.length - L) (by omega) (by omega) h.cap
  have HS : Hid (∀ o, 0 < L → ∃ ad, dp = some ad ∧ ∀ j v, (evC (Mm.lst l))[j]? = some v → (w.alloc o).cell? (ad.add j) = some v) := by
    intro o h0
    obtain ⟨g, rfl, hB, hlt, hc, hm, hcell⟩ := h.spot (by intro k; rw [k] at hLn; simp at hLn; omega)
    refine ⟨⟨g, (l.length - L) * 6, none⟩, hdp (by omega), fun j v hv => ?_⟩
    have hadd : (⟨g, (l.length - L) * 6, none⟩ : Addr).add j = ⟨g, (l.length - L) * 6 + j, none⟩ := by unfold Addr.add; split <;> simp_all
    rw [hadd]
    have hb : Below w.heap.size w (w.alloc o) := (Below.refl _ _).alloc (Nat.le_refl _) _
    rw [hb.cell (p := ⟨g, (l.length - L) * 6 + j, none⟩) hlt]
    refine hcell _ v ?_
    have el : l = l.take (l.length - L) ++ Mm.lst l := by
      unfold Mm.lst
      rw [show l.length - 100 = l.length - L by omega, List.take_append_drop]
    have el2 : evC l = evC (l.take (l.length - L)) ++ evC (Mm.lst l) := by rw [← evC_append, ← el]
    rw [el2, List.getElem?_append_right (by rw [evC_length, List.length_take]; omega), evC_length, List.length_take, show (l.length - L) * 6 + j - min (l.length - L) l.length * 6 = j by omega]
    exact hv
  have HL : Hid ((evC (Mm.lst l)).length = L * 6) := by show _ = _; rw [evC_length, hL]
  have HE : Hid (∀ w', w'.heap[w.heap.size]? = some (.cells (evC (Mm.lst l)).toArray 60 (0, 0)) → EvAt w.heap.size w' (some ⟨w.heap.size, 0, none⟩) L (Mm.lst l)) := fun w' hh => by
    refine ⟨evC_length _, Or.inr ⟨w.heap.size, L, _, by rw [hL], Nat.le_refl _, hh, by rw [hL]; exact Nat.le_refl _, by simp only [maxLen]; omega, by simp [evC_length, hL], ?_⟩⟩
    rw [← evC_length]
    simp
  have H1 : Hid (∀ v ∈ evC (Mm.lst l), v.oneCell' = true) := evC_one _
  have Hn : Hid (Nat.min (l.length - (l.length - L)) L = L) := by show min _ _ = _; omega
  rw [hL]
  generalize evC (Mm.lst l) = cs at HS HL HE H1
  generalize Mm.lst l = ll at HE hL ⊢
  clear h hdp hLm hL
  generalize l.length = n at *
  go_enter Tryz.func32, Tryz.ntmps32
  go_wp2_with (refine wpList_copyK (P := Tryz.prog) rfl (.tmp 8) (.tmp 15) 43 43 rfl 60 6 Tryz.underlying43 evInfo1 w.heap.size dp L L (n - (n - L)) (cap - (n - L)) L rfl rfl _ 60 (heap_alloc_new _ _) cs Hn.out HL.out (HS.out _) (by rw [HL.out, size_madeCells]) H1.out w.heap.size w ((Below.refl _ _).alloc (Nat.le_refl _) _) (Nat.le_refl _) ?_; intro w2 HG2 hb2)
  go_wp2
  go_ret
  exact ⟨rfl, HE.out _ HG2.out, hb2⟩
end Go.Proofs.YthkaekpoicodeaaGreatDoor
/- Package wire, over the landed code: one node's sample. -/
namespace Go.Proofs.YthkaekpoicodeaaGreatDoor
open Go.RowKit
set_option linter.unusedVariables false
theorem Mm.bad_len (m : Mm.St) (e : Mm.Ev) : (Mm.bad m e).2.length ≤ 2 := by
  unfold Mm.bad
  split <;> simp
theorem Mm.hearing_len (m : Mm.St) (c : Bool) : (Mm.hearing m c).2.length ≤ 2 := by
  unfold Mm.hearing
  split
  · simp
  · split
    · exact Mm.bad_len _ _
    · split <;> simp
theorem Mm.sample_len (m : Mm.St) (c : Bool) : (Mm.sample m c).2.length ≤ 3 := by
  unfold Mm.sample Mm.start
  cases m.ph
  · dsimp only
    split <;> simp
  · dsimp only
    split
    · unfold Mm.sending
      split
      · have := Mm.hearing_len { m with snd := false } c
        simp only [List.length_cons]
        omega
      · split
        · exact Nat.le_trans (Mm.bad_len _ _) (by decide)
        · split
          · exact Nat.le_trans (Mm.bad_len _ _) (by decide)
          · split <;> simp
    · exact Nat.le_trans (Mm.hearing_len _ _) (by decide)
  · dsimp only
    split <;> simp
  · simp
  · dsimp only
    split
    · simp
    · split <;> simp
  · simp
set_option maxRecDepth 100000 in
set_option maxHeartbeats 1000000 in
theorem node_any (w : World) (p gn qb : Nat) (N : List Nd) (bs : List Bool) (fl : Bool) (i : Nat) (x : Nd) (c : UInt8) (h : WI w p gn qb N bs fl) (hx : N[i]? = some x) (hT : Tab w) (m' : Mm.St) (l : List Mm.Ev) (hm : Mm.sample x.m (c != 48) = (m', l)) :
    Calls Tryz.prog 29 #[.pointer (some ⟨gn, i * 2, none⟩), .int .u8 (c.toNat : Int)] w fun e w' => ∃ s cap s', e = .returned (.slice s l.length cap) ∧ EvAt w.heap.size w' s cap l ∧ WI w' p gn qb (N.set i ⟨x.q, s', m', Mm.lst (x.h ++ l)⟩) bs fl ∧ Kept (fun g => g = x.q ∨ g = gn) w w' ∧ (s' = x.s ∨ ∃ g, s' = some ⟨g, 0, none⟩ ∧ w.heap.size ≤ g) := by
  have hmx := List.mem_of_getElem? hx
  have HN := h.n0 hx
  have H1 : Hid (∀ w1 s cap F', EvAt w.heap.size w1 s cap l → MacAt w1 x.q F' m' → Kept (fun g => g = x.q) w w1 → WI w1 p gn qb (N.set i ⟨x.q, x.s, m', x.h⟩) bs fl) := fun w1 s cap F' hE hA hk => h.setM hx hk (by have := hA.1; subst this; exact hA)
  have HS := macSpec.sample w x.q _ x.m c (h.mac x hmx) hT
  rw [hm] at HS
  have HS' : Hid (Calls Tryz.prog 41 #[bptr x.q, .int .u8 (c.toNat : Int)] w fun e w' => ∃ s cap, e = .returned (.slice s l.length cap) ∧ EvAt w.heap.size w' s cap l ∧ ∃ F', MacAt w' x.q F' m' ∧ (∀ g, F' g → (fun g => g = x.q) g ∨ w.heap.size ≤ g) ∧ (∀ g o, s = some ⟨g, o, none⟩ → ¬ F' g) ∧ Kept (fun g => g = x.q) w w') := HS
  have hl3 : l.length ≤ 3 := by have := Mm.sample_len x.m (c != 48); rw [hm] at this; exact this
  have hi : i < N.length := (List.getElem?_eq_some_iff.1 hx).1
  have HX : Hid (N[i]? = some x) := hx
  clear HS h hx hm hT hmx
  go_enter Tryz.func29, Tryz.ntmps29
  go_wp2_with fail
  refine HS'.out.mono ?_
  rintro e w1 ⟨s, cap, rfl, hE, F', hA', _, _, hk⟩
  have HW : Hid (WI w1 p gn qb (N.set i ⟨x.q, x.s, m', x.h⟩) bs fl) := H1.out w1 s cap F' hE hA' hk
  have HE : Hid (EvAt w.heap.size w1 s cap l) := hE
  have HK : Hid (Kept (fun g => g = x.q) w w1) := hk
  have HX1 : Hid ((N.set i ⟨x.q, x.s, m', x.h⟩)[i]? = some ⟨x.q, x.s, m', x.h⟩) := List.getElem?_set_self hi
  clear hE hA' hk H1 HS' HN
  by_cases h0 : l = []
  · subst h0
    have hH := (HW.out.ev _ (List.mem_of_getElem? HX1.out)).2
    go_wp2
    go_ret
    refine ⟨_, _, x.s, rfl, HE.out, ?_, HK.out.mono (fun g hg => Or.inl hg), Or.inl rfl⟩
    rw [List.append_nil, Mm.lst_id hH]
    exact HW.out
  · have hpos : 0 < l.length := List.length_pos_iff.2 h0
    have HV := HW.out.ev _ (List.mem_of_getElem? HX1.out)
    have hh100 : x.h.length ≤ 100 := HV.2
    have HV1 : Hid (EvAt 0 w1 x.s x.h.length x.h) := HV.1
    have HN1 : w1.cell? ⟨gn, i * 2 + 1, none⟩ = some (.slice x.s x.h.length x.h.length) := HW.out.n1 (x := ⟨x.q, x.s, m', x.h⟩) HX1.out
    have HL0 : Hid (l ≠ []) := h0
    clear HV h0
    go_wp2_with (refine wpList_append_new rfl (.tmp 19) (.tmp 20) rfl (s := x.s) (s2 := s) (cap2 := cap) (l := x.h) (l2 := l) rfl rfl rfl rfl HV1.out HE.out HL0.out (by omega) (by omega) ?_; intro c2 w2 hE2 hb2)
    refine (latest_any _ _ _ _ _ (by simp) hE2 (by rw [List.length_append]; omega)).mono ?_
    rintro e w3 ⟨rfl, hE3, hb3⟩
    have hb13 : Below w1.heap.size w1 w3 := below_join hb2 hb3
    have HW3 : Hid (WI w3 p gn qb (N.set i ⟨x.q, x.s, m', x.h⟩) bs fl) := HW.out.below hb13
    have HE3 : Hid (EvB w3 (some ⟨w2.heap.size, 0, none⟩) (Mm.lst (x.h ++ l))) := ⟨hE3.base (Nat.zero_le _), Mm.lst_len _⟩
    have HN3 : w3.cell? ⟨gn, i * 2 + 1, none⟩ = some (.slice x.s x.h.length x.h.length) := HW3.out.n1 (x := ⟨x.q, x.s, m', x.h⟩) HX1.out
    have HF3 : w3.frozen? ⟨gn, i * 2 + 1, none⟩ = false := HW3.out.nf _
    have HET : Hid (EvAt w.heap.size w3 s cap l) := HE.out.on (fun g o hs => hb13.block g (HE.out.zero g o hs).2.2)
    have HZ : Hid (w.heap.size ≤ w2.heap.size) := Nat.le_trans HK.out.size hb2.size
    have HK3 : Hid (Kept (fun g => g = x.q ∨ g = gn) w w3) := (HK.out.mono (fun g hg => Or.inl hg)).trans (G := fun _ => False) (Kept.of_below hb13) (fun g hg => hg.elim)
    clear hE2 hb2 hb3 hE3 hb13 HN1
    go_wp2
    go_ret
    refine ⟨s, cap, some ⟨w2.heap.size, 0, none⟩, rfl, ?_, ?_, HK3.out.trans (Kept.set (F := fun g => g = x.q ∨ g = gn) w3 ⟨gn, i * 2 + 1, none⟩ _ (Or.inr rfl)) (fun g hg => Or.inl hg), Or.inr ⟨_, rfl, HZ.out⟩⟩
    · obtain ⟨t1, t2, t3, t4, t5, t6, t7, t8, t9, t10⟩ := ty_wn
      refine HET.out.on (fun g o hs => heap_setCell_other _ ⟨gn, i * 2 + 1, none⟩ g _ (ty_ne ?_ ⟨_, HW3.out.row⟩ t9))
      rcases HET.out.2 with ⟨k1, _⟩ | ⟨g', c', cur, hv, hB, hh, _⟩
      · injection k1 with a; rw [hs] at a; cases a
      · injection hv with a
        rw [hs] at a
        injection a with a
        injection a with a1 a2
        subst a1
        exact ⟨_, hh⟩
    · have := HW3.out.setH HX1.out HE3.out
      rw [List.set_set] at this
      exact this
end Go.Proofs.YthkaekpoicodeaaGreatDoor
/- Package wire, over the landed code: what all drive; what is looked at. -/
namespace Go.Proofs.YthkaekpoicodeaaGreatDoor
open Go.RowKit
set_option linter.unusedVariables false
def drv (m : Mm.St) : UInt8 := if Mm.drive m then 49 else 48
theorem drv_int (m : Mm.St) : (if Mm.drive m then (49 : Int) else 48) = ((drv m).toNat : Int) := by unfold drv; split <;> rfl
def dl (N : List Nd) : List UInt8 := N.map (fun x => drv x.m)
theorem dl_len (N : List Nd) : (dl N).length = N.length := by unfold dl; rw [List.length_map]
theorem dl_take (N : List Nd) (k : Nat) (x : Nd) (h : N[k]? = some x) : (dl N).take (k + 1) = (dl N).take k ++ [drv x.m] := by
  rw [List.take_add_one]
  congr 1
  unfold dl
  rw [List.getElem?_map, h]
  rfl
theorem dl_wire (N : List Nd) : Bz.wire (dl N) = (N.map (·.m)).all Mm.drive := by
  unfold Bz.wire dl
  rw [List.all_map, List.all_map]
  congr 1
  funext x
  show (drv x.m != 48) = Mm.drive x.m
  unfold drv
  cases Mm.drive x.m <;> rfl
set_option maxRecDepth 100000 in
set_option maxHeartbeats 1000000 in
theorem levels_any (w : World) (p gn qb : Nat) (N : List Nd) (bs : List Bool) (fl : Bool) (h : WI w p gn qb N bs fl) (hT : Tab w) :
    Calls Tryz.prog 28 #[bptr p] w fun e w' => e = .returned (.string ⟨(dl N).toArray⟩) ∧ Below w.heap.size w w' := by
  have HW : Hid (WI w p gn qb N bs fl) := h
  have HT : Hid (Tab w) := hT
  have c0 := h.c0
  have c0' : ∀ o, (w.alloc o).cell? ⟨p, 0, none⟩ = some (.slice (some ⟨gn, 0, none⟩) N.length N.length) := fun o => (h.below ((Below.refl _ _).alloc (Nat.le_refl _) _)).c0
  obtain ⟨hlo, hhi⟩ : 1 ≤ N.length ∧ N.length ≤ 8 := ⟨h.lo, h.hi⟩
  have HL : Hid ((dl N).length = N.length) := dl_len N
  obtain ⟨n, hn⟩ : ∃ n, N.length = n := ⟨_, rfl⟩
  have HNn : Hid (N.length = n) := hn
  rw [hn] at c0 c0' hlo hhi HL
  clear h hT hn
  have hmk := fun W => Lw.run_makeBytes (P := Tryz.prog) 74 5 Tryz.underlying74 Tryz.infoU8 (n : Int) n rfl (by omega) W
  go_enter Tryz.func28, Tryz.ntmps28
  go_wp2
  go_loopw [16] (fun i wr => ∃ k : Nat, k ≤ n ∧ i = .int .i64 k ∧ Hid (wr.heap[w.heap.size]? = some (.cells (Bm.fillV ((dl N).take k) n).toArray 5 (0, 0))) ∧ Hid (Below w.heap.size w wr)) (fun i _ => n - (intOf i).toNat)
  case atStart => exact ⟨0, Nat.zero_le _, rfl, heap_alloc_new _ _, (Below.refl _ _).alloc (Nat.le_refl _) _⟩
  case round =>
    clear c0 c0'
    obtain ⟨k, hk, rfl, HG, HB⟩ := hrel
    by_cases hlt : k < n
    · obtain ⟨x, hx⟩ : ∃ x, N[k]? = some x := ⟨_, List.getElem?_eq_getElem (by rw [HNn.out]; exact hlt)⟩
      have HWr : Hid (WI wr p gn qb N bs fl) := HW.out.below HB.out
      have c0 : wr.cell? ⟨p, 0, none⟩ = some (.slice (some ⟨gn, 0, none⟩) n n) := by have := HWr.out.c0; rw [HNn.out] at this; exact this
      have n0 := HWr.out.n0 hx
      have HD : Hid (Calls Tryz.prog 40 #[bptr x.q] wr fun e w' => e = .returned (.int .u8 ((drv x.m).toNat : Int)) ∧ Below wr.heap.size wr w') := by
        have := macSpec.drive wr x.q _ x.m (HWr.out.mac x (List.mem_of_getElem? hx)) (HT.out.below HB.out)
        rw [drv_int] at this
        exact this
      have HX : Hid (N[k]? = some x) := hx
      clear hx hmk
      go_wp2_with fail
      refine HD.out.mono ?_
      rintro e w2 ⟨rfl, hb2⟩
      have hlt2 : w.heap.size < wr.heap.size := (Array.getElem?_eq_some_iff.1 HG.out).1
      have HG2 : Hid (w2.heap[w.heap.size]? = some (.cells (Bm.fillV ((dl N).take k) n).toArray 5 (0, 0))) := (hb2.block _ hlt2).trans HG.out
      have hlen : ((dl N).take k).length = k := by rw [List.length_take, HL.out]; omega
      have hcell : w2.cell? ⟨w.heap.size, k, none⟩ = some (.int .u8 0) := by
        rw [cell_of_row _ _ _ _ _ _ HG2.out]
        have h := Bm.fillV_get ((dl N).take k) n (by omega)
        rw [hlen] at h
        simpa using h
      have hfz : w2.frozen? ⟨w.heap.size, k, none⟩ = false := frozen_of_row _ _ _ _ _ HG2.out
      have HSet : Hid ((w2.setCell ⟨w.heap.size, k, none⟩ (.int .u8 ((drv x.m).toNat : Int))).heap[w.heap.size]? = some (.cells (Bm.fillV ((dl N).take (k + 1)) n).toArray 5 (0, 0))) := by
        show _ = _
        rw [heap_setCell_same _ _ _ _ _ _ HG2.out, dl_take N k x HX.out, ← Bm.fillV_set _ _ _ (by omega), hlen]
      have hbs : Hid (Below w.heap.size w (w2.setCell ⟨w.heap.size, k, none⟩ (.int .u8 ((drv x.m).toNat : Int)))) := (below_join HB.out hb2).setCell (Nat.le_refl _) _
      clear hlen HG HG2 hb2 hlt2 HD c0 n0 HWr
      go_wp2
      go_roundw
      case rel => exact ⟨k + 1, by omega, rfl, HSet, hbs⟩
      case measure => simp only [intOf]; omega
    · obtain rfl : k = n := by omega
      have HG' : wr.heap[w.heap.size]? = some (.cells (Bm.cellsOf (dl N)).toArray 5 (0, 0)) := by
        rw [HG.out, List.take_of_length_le (by rw [HL.out]; exact Nat.le_refl _), Bm.fillV_full _ _ HL.out]
      have hconv := Lw.run_conv_row (P := Tryz.prog) HG' 74 5 9 Tryz.underlying74 Tryz.underlying5 Tryz.underlying9 0 k k (by rw [HL.out]; omega) (dl N) (by rw [List.drop_zero, List.take_of_length_le (by rw [HL.out]; exact Nat.le_refl _)])
      clear HG HG' hmk
      go_wp2
      go_ret
      exact ⟨rfl, HB.out⟩
set_option maxRecDepth 100000 in
set_option maxHeartbeats 1000000 in
theorem wis_any (w : World) (p gn qb : Nat) (N : List Nd) (bs : List Bool) (fl : Bool) (i : Int) (h : WI w p gn qb N bs fl) : Calls Tryz.prog 24 #[bptr p, .int .i64 i] w fun e w' => e = .returned (.bool (decide (0 ≤ i ∧ i < N.length))) ∧ w' = w := by
  have c0 := h.c0
  obtain ⟨hlo, hhi⟩ : 1 ≤ N.length ∧ N.length ≤ 8 := ⟨h.lo, h.hi⟩
  clear h
  generalize N.length = n at *
  by_cases h0 : 0 ≤ i
  · by_cases h1 : i < (n : Int)
    · rw [decide_eq_true ⟨h0, h1⟩]
      go_enter Tryz.func24, Tryz.ntmps24
      go_wp2
      go_ret
      exact ⟨rfl, rfl⟩
    · rw [decide_eq_false (fun k => h1 k.2)]
      go_enter Tryz.func24, Tryz.ntmps24
      go_wp2
      go_ret
      exact ⟨rfl, rfl⟩
  · rw [decide_eq_false (fun k => h0 k.1)]
    go_enter Tryz.func24, Tryz.ntmps24
    go_wp2
    go_ret
    exact ⟨rfl, rfl⟩
set_option maxRecDepth 100000 in
set_option maxHeartbeats 1000000 in
theorem wlen_any (w : World) (p gn qb : Nat) (N : List Nd) (bs : List Bool) (fl : Bool) (h : WI w p gn qb N bs fl) : Calls Tryz.prog 7 #[bptr p] w fun e w' => e = .returned (.int .i64 (N.length : Int)) ∧ Below w.heap.size w w' := by
  have c0 := h.c0
  clear h
  generalize N.length = n at *
  go_enter Tryz.func7, Tryz.ntmps7
  go_wp2
  go_ret
  exact ⟨rfl, Below.refl _ _⟩
set_option maxRecDepth 100000 in
set_option maxHeartbeats 1000000 in
theorem wbus_any (w : World) (p gn qb : Nat) (N : List Nd) (bs : List Bool) (fl : Bool) (h : WI w p gn qb N bs fl) : Calls Tryz.prog 16 #[bptr p] w fun e w' => e = .returned (bptr qb) ∧ Below w.heap.size w w' := by
  have c1 := h.c1
  clear h
  go_enter Tryz.func16, Tryz.ntmps16
  go_wp2
  go_ret
  exact ⟨rfl, Below.refl _ _⟩
set_option maxRecDepth 100000 in
set_option maxHeartbeats 1000000 in
theorem wmac_any (w : World) (p gn qb : Nat) (N : List Nd) (bs : List Bool) (fl : Bool) (i : Nat) (x : Nd) (hx : N[i]? = some x) (h : WI w p gn qb N bs fl) : Calls Tryz.prog 14 #[bptr p, .int .i64 (i : Int)] w fun e w' => e = .returned (bptr x.q) ∧ Below w.heap.size w w' := by
  have c0 := h.c0
  have n0 := h.n0 hx
  have hi : i < N.length := (List.getElem?_eq_some_iff.1 hx).1
  obtain ⟨hlo, hhi⟩ : 1 ≤ N.length ∧ N.length ≤ 8 := ⟨h.lo, h.hi⟩
  have HI : Hid (∀ w', w' = w → Calls Tryz.prog 24 #[bptr p, .int .i64 (i : Int)] w' fun e w'' => e = .returned (.bool true) ∧ w'' = w') := fun w' hw => by
    subst hw
    have := wis_any w' p gn qb N bs fl i h
    rw [decide_eq_true ⟨by omega, by omega⟩] at this
    exact this
  clear h hx
  generalize N.length = n at *
  go_enter Tryz.func14, Tryz.ntmps14
  go_wp2_with fail
  refine (HI.out _ rfl).mono ?_
  rintro e w' ⟨rfl, hw⟩
  rw [hw]
  clear hw HI
  go_wp2
  go_ret
  exact ⟨rfl, Below.refl _ _⟩
set_option maxRecDepth 100000 in
set_option maxHeartbeats 1000000 in
theorem wmacNil_any (w : World) (p gn qb : Nat) (N : List Nd) (bs : List Bool) (fl : Bool) (i : Int) (hi : ¬ (0 ≤ i ∧ i < N.length)) (h : WI w p gn qb N bs fl) : Calls Tryz.prog 14 #[bptr p, .int .i64 i] w fun e w' => e = .returned (.pointer none) ∧ Below w.heap.size w w' := by
  have HI : Hid (∀ w', w' = w → Calls Tryz.prog 24 #[bptr p, .int .i64 i] w' fun e w'' => e = .returned (.bool false) ∧ w'' = w') := fun w' hw => by
    subst hw
    have := wis_any w' p gn qb N bs fl i h
    rw [decide_eq_false hi] at this
    exact this
  clear h hi
  go_enter Tryz.func14, Tryz.ntmps14
  go_wp2_with fail
  refine (HI.out _ rfl).mono ?_
  rintro e w' ⟨rfl, hw⟩
  rw [hw]
  clear hw HI
  go_wp2
  go_ret
  exact ⟨rfl, Below.refl _ _⟩
set_option maxRecDepth 100000 in
set_option maxHeartbeats 1000000 in
theorem wheard_any (w : World) (p gn qb : Nat) (N : List Nd) (bs : List Bool) (fl : Bool) (i : Nat) (x : Nd) (hx : N[i]? = some x) (h : WI w p gn qb N bs fl) : Calls Tryz.prog 13 #[bptr p, .int .i64 (i : Int)] w fun e w' => e = .returned (.slice (some ⟨w.heap.size, 0, none⟩) x.h.length x.h.length) ∧ EvAt w.heap.size w' (some ⟨w.heap.size, 0, none⟩) x.h.length x.h ∧ Below w.heap.size w w' := by
  have c0 := h.c0
  have n1 := h.n1 hx
  have hi : i < N.length := (List.getElem?_eq_some_iff.1 hx).1
  obtain ⟨hlo, hhi⟩ : 1 ≤ N.length ∧ N.length ≤ 8 := ⟨h.lo, h.hi⟩
  have HI : Hid (∀ w', w' = w → Calls Tryz.prog 24 #[bptr p, .int .i64 (i : Int)] w' fun e w'' => e = .returned (.bool true) ∧ w'' = w') := fun w' hw => by
    subst hw
    have := wis_any w' p gn qb N bs fl i h
    rw [decide_eq_true ⟨by omega, by omega⟩] at this
    exact this
  have HV := h.ev x (List.mem_of_getElem? hx)
  have HC : Hid (Calls Tryz.prog 32 #[.slice x.s x.h.length x.h.length] w fun e w' => e = .returned (.slice (some ⟨w.heap.size, 0, none⟩) x.h.length x.h.length) ∧ EvAt w.heap.size w' (some ⟨w.heap.size, 0, none⟩) x.h.length x.h ∧ Below w.heap.size w w') := by
    have := latest_any w x.s x.h.length x.h _ rfl HV.1 (Nat.le_trans HV.2 (by decide))
    rw [Mm.lst_id HV.2] at this
    exact this
  clear h hx HV
  generalize N.length = n at *
  go_enter Tryz.func13, Tryz.ntmps13
  go_wp2_with fail
  refine (HI.out _ rfl).mono ?_
  rintro e w' ⟨rfl, hw⟩
  rw [hw]
  clear hw HI
  go_wp2_with fail
  refine HC.out.mono ?_
  rintro e w2 ⟨rfl, hE, hb⟩
  clear HC n1 c0
  go_wp2
  go_ret
  exact ⟨rfl, hE, hb⟩
set_option maxRecDepth 100000 in
set_option maxHeartbeats 1000000 in
theorem wheardNo_any (w : World) (p gn qb : Nat) (N : List Nd) (bs : List Bool) (fl : Bool) (i : Int) (hi : ¬ (0 ≤ i ∧ i < N.length)) (h : WI w p gn qb N bs fl) : Calls Tryz.prog 13 #[bptr p, .int .i64 i] w fun e w' => e = .returned (.slice none 0 0) ∧ Below w.heap.size w w' := by
  have HI : Hid (∀ w', w' = w → Calls Tryz.prog 24 #[bptr p, .int .i64 i] w' fun e w'' => e = .returned (.bool false) ∧ w'' = w') := fun w' hw => by
    subst hw
    have := wis_any w' p gn qb N bs fl i h
    rw [decide_eq_false hi] at this
    exact this
  clear h hi
  go_enter Tryz.func13, Tryz.ntmps13
  go_wp2_with fail
  refine (HI.out _ rfl).mono ?_
  rintro e w' ⟨rfl, hw⟩
  rw [hw]
  clear hw HI
  go_wp2
  go_ret
  exact ⟨rfl, Below.refl _ _⟩
end Go.Proofs.YthkaekpoicodeaaGreatDoor
/- Package wire, over the landed code: one bit. -/
namespace Go.Proofs.YthkaekpoicodeaaGreatDoor
open Go.RowKit
set_option linter.unusedVariables false
theorem Tab.kept {F : Nat → Prop} {w w' : World} (h : Tab w) (hp : ¬ F 0) (hk : Kept F w w') : Tab w' :=
  ⟨Nat.lt_of_lt_of_le h.1 hk.size, fun k z hz => ⟨(cell_heap (hk.block _ h.1 hp) _).trans (h.2 k z hz).1, (cell_heap (hk.block _ h.1 hp) _).trans (h.2 k z hz).2⟩⟩
theorem tab_at {w : World} (h : Tab w) : ∃ a b : Int, w.cell? ⟨0, 0, none⟩ = some (.int .i64 a) ∧ w.cell? ⟨0, 2, none⟩ = some (.int .i64 b) := ⟨_, _, (h.2 0 _ rfl).1, (h.2 1 _ rfl).1⟩
theorem tab_mac {w : World} (h : Tab w) {q : Nat} {F : Nat → Prop} {m : Mm.St} (hm : MacAt w q F m) : ¬ 0 = q := by
  rintro e
  obtain ⟨a, b, _, hb⟩ := tab_at h
  have := hm.2.2.2.c 2 _ rfl
  rw [← e, hb] at this
  injection this with k
  cases k
theorem tab_bus {w : World} (h : Tab w) {q : Nat} {F : Nat → Prop} {bs : List Bool} {fl : Bool} (hm : BusAt w q F bs fl) : ¬ 0 = q := by
  rintro e
  obtain ⟨a, b, ha, _⟩ := tab_at h
  obtain ⟨_, rg, hR, _⟩ := hm
  obtain ⟨c, hc⟩ := hR.ck 0 (by decide)
  rw [← e, ha] at hc
  injection hc with k
  injection k with k
  cases k
theorem tab_gn {w : World} (h : Tab w) {p gn qb : Nat} {N : List Nd} {bs : List Bool} {fl : Bool} (hm : WI w p gn qb N bs fl) : ¬ 0 = gn := by
  rintro e
  obtain ⟨a, b, ha, _⟩ := tab_at h
  obtain ⟨x, hx⟩ : ∃ x, N[0]? = some x := ⟨_, List.getElem?_eq_getElem hm.lo⟩
  have := hm.n0 hx
  rw [← e, Nat.zero_mul, ha] at this
  injection this with k
  cases k
/-- So far: the first k nodes have sampled the bit. -/
def Sofar (N N' : List Nd) (k : Nat) (b : Bool) : Prop :=
  N'.length = N.length ∧ ∀ j x, N[j]? = some x → ∃ x', N'[j]? = some x' ∧ x'.q = x.q ∧ (if j < k then x'.m = (Mm.sample x.m b).1 ∧ x'.h = Mm.lst (x.h ++ (Mm.sample x.m b).2) else x'.m = x.m ∧ x'.h = x.h)
theorem sofar_start (N : List Nd) (b : Bool) : Sofar N N 0 b := ⟨rfl, fun j x h => ⟨x, h, rfl, rfl, rfl⟩⟩
theorem sofar_at {N N' : List Nd} {k : Nat} {b : Bool} (h : Sofar N N' k b) {x : Nd} (hx : N[k]? = some x) : ∃ s, N'[k]? = some ⟨x.q, s, x.m, x.h⟩ := by
  obtain ⟨x', h1, h2, h3⟩ := h.2 k x hx
  rw [if_neg (Nat.lt_irrefl _)] at h3
  cases x'
  dsimp only at h2 h3
  obtain ⟨h3, h4⟩ := h3
  subst h2 h3 h4
  exact ⟨_, h1⟩
theorem sofar_next {N N' : List Nd} {k : Nat} {b : Bool} (h : Sofar N N' k b) {x : Nd} (hx : N[k]? = some x) (s : Option Addr) : Sofar N (N'.set k ⟨x.q, s, (Mm.sample x.m b).1, Mm.lst (x.h ++ (Mm.sample x.m b).2)⟩) (k + 1) b := by
  refine ⟨by rw [List.length_set]; exact h.1, fun j y hy => ?_⟩
  by_cases e : k = j
  · subst e
    rw [hx] at hy
    injection hy with hy
    subst hy
    refine ⟨_, List.getElem?_set_self (by rw [h.1]; exact (List.getElem?_eq_some_iff.1 hx).1), rfl, ?_⟩
    rw [if_pos (Nat.lt_succ_self _)]
    exact ⟨rfl, rfl⟩
  · obtain ⟨x', h1, h2, h3⟩ := h.2 j y hy
    refine ⟨x', by rw [List.getElem?_set_ne e]; exact h1, h2, ?_⟩
    by_cases hj : j < k
    · rw [if_pos (by omega)]; rw [if_pos hj] at h3; exact h3
    · rw [if_neg (by omega)]; rw [if_neg hj] at h3; exact h3
theorem sofar_end {N N' : List Nd} {k : Nat} {b : Bool} (h : Sofar N N' k b) (hk : N.length ≤ k) : N'.map (·.q) = N.map (·.q) ∧ N'.map (·.m) = Mm.wmap (N.map (·.m)) b ∧ N'.map (·.h) = Mm.wheard (N.map (·.m)) (N.map (·.h)) b := by
  have key : ∀ j, (N[j]? = none ∧ N'[j]? = none) ∨ ∃ x x' : Nd, N[j]? = some x ∧ N'[j]? = some x' ∧ x'.q = x.q ∧ x'.m = (Mm.sample x.m b).1 ∧ x'.h = Mm.lst (x.h ++ (Mm.sample x.m b).2) := fun j => by
    by_cases hj : j < N.length
    · obtain ⟨x', h1, h2, h3⟩ := h.2 j _ (List.getElem?_eq_getElem hj)
      rw [if_pos (by omega)] at h3
      exact Or.inr ⟨_, x', List.getElem?_eq_getElem hj, h1, h2, h3⟩
    · exact Or.inl ⟨List.getElem?_eq_none (by omega), List.getElem?_eq_none (by rw [h.1]; omega)⟩
  refine ⟨?_, ?_, ?_⟩
  all_goals
    apply List.ext_getElem?
    intro j
  · rw [List.getElem?_map, List.getElem?_map]
    rcases key j with ⟨a, b⟩ | ⟨x, x', a, b, c, d, e⟩
    · rw [a, b]
    · rw [a, b]; exact congrArg some c
  · unfold Mm.wmap
    rw [List.getElem?_map, List.getElem?_map, List.getElem?_map]
    rcases key j with ⟨a, b⟩ | ⟨x, x', a, b, c, d, e⟩
    · rw [a, b]; rfl
    · rw [a, b]; exact congrArg some d
  · unfold Mm.wheard
    rw [List.getElem?_map, List.getElem?_zipWith, List.getElem?_map, List.getElem?_map]
    rcases key j with ⟨a, b⟩ | ⟨x, x', a, b, c, d, e⟩
    · rw [a, b]; rfl
    · rw [a, b]; exact congrArg some e
def evk (N : List Nd) (b : Bool) (k : Nat) : List Mm.Ev := Mm.wevs ((N.map (·.m)).take k) b
theorem evk_next (N : List Nd) (b : Bool) (k : Nat) (x : Nd) (hx : N[k]? = some x) : evk N b (k + 1) = evk N b k ++ (Mm.sample x.m b).2 := by
  unfold evk Mm.wevs
  rw [List.take_add_one, List.flatMap_append]
  congr 1
  rw [List.getElem?_map, hx]
  simp
theorem evk_len (N : List Nd) (b : Bool) (k : Nat) (h : N.length ≤ 8) : (evk N b k).length ≤ 24 := by
  have h1 : ∀ ms : List Mm.St, (Mm.wevs ms b).length ≤ 3 * ms.length := fun ms => by
    unfold Mm.wevs
    induction ms with
    | nil => simp
    | cons a l ih =>
      rw [List.flatMap_cons, List.length_append, List.length_cons]
      have := Mm.sample_len a b
      omega
  have := h1 ((N.map (·.m)).take k)
  unfold evk
  rw [List.length_take, List.length_map] at this
  omega
theorem evk_all (N : List Nd) (b : Bool) : evk N b N.length = Mm.wevs (N.map (·.m)) b := by
  unfold evk
  rw [List.take_of_length_le (by rw [List.length_map]; exact Nat.le_refl _)]
theorem bsg_ne (b : Bool) : (bsg b != 48) = b := by cases b <;> rfl
theorem fpw_set {p gn qb B : Nat} {N : List Nd} {i : Nat} {x y : Nd} (hx : N[i]? = some x) (hq : y.q = x.q) (hs : y.s = x.s ∨ ∃ g, y.s = some ⟨g, 0, none⟩ ∧ B ≤ g) : ∀ g, fpw p gn qb (N.set i y) g → fpw p gn qb N g ∨ B ≤ g := by
  rintro g (h | h | h | ⟨z, hz, h⟩)
  · exact Or.inl (Or.inl h)
  · exact Or.inl (Or.inr (Or.inl h))
  · exact Or.inl (Or.inr (Or.inr (Or.inl h)))
  · rcases mem_setN hx hz with rfl | ⟨j, hj, hz'⟩
    · rcases h with h | ⟨o, h⟩
      · exact Or.inl (Or.inr (Or.inr (Or.inr ⟨x, List.mem_of_getElem? hx, Or.inl (hq ▸ h)⟩)))
      · rcases hs with hs | ⟨g', hs, hB⟩
        · exact Or.inl (Or.inr (Or.inr (Or.inr ⟨x, List.mem_of_getElem? hx, Or.inr ⟨o, hs ▸ h⟩⟩)))
        · rw [hs] at h
          injection h with h
          injection h with h1
          exact Or.inr (by omega)
    · exact Or.inl (Or.inr (Or.inr (Or.inr ⟨z, List.mem_of_getElem? hz', h⟩)))
/-- What holds of the wire within the loop over its nodes. -/
structure Mid (w wr : World) (p gn qb : Nat) (N : List Nd) (bs : List Bool) (b : Bool) (k : Nat) (sA : Option Addr) (cA : Nat) (N' : List Nd) : Prop where
  ev : EvAt w.heap.size wr sA cA (evk N b k)
  wi : WI wr p gn qb N' bs false
  so : Sofar N N' k b
  sep : ∀ g o, sA = some ⟨g, o, none⟩ → ¬ fpw p gn qb N' g
  fp : ∀ g, fpw p gn qb N' g → fpw p gn qb N g ∨ w.heap.size ≤ g
  kept : Kept (fpw p gn qb N) w wr
  tab : Tab wr
  tw : 0 < w.heap.size
theorem mid_start {w wr : World} {p gn qb : Nat} {N : List Nd} {bs : List Bool} {b : Bool} (h : WI wr p gn qb N bs false) (hk : Kept (fpw p gn qb N) w wr) (hT : Tab wr) (hG : 0 < w.heap.size) : Mid w wr p gn qb N bs b 0 none 0 N :=
  ⟨EvAt.empty _ _, h, sofar_start N b, fun g o k => (by cases k), fun g hg => Or.inl hg, hk, hT, hG⟩
/-- One node's bit, and its events laid behind the others. -/
theorem mid_next {w wr w1 w2 : World} {p gn qb : Nat} {N : List Nd} {bs : List Bool} {b : Bool} {k : Nat} {sA : Option Addr} {cA : Nat} {N' : List Nd} (h : Mid w wr p gn qb N bs b k sA cA N') {x : Nd} (hx : N[k]? = some x)
    {s' : Option Addr} (hW : WI w1 p gn qb (N'.set k ⟨x.q, s', (Mm.sample x.m b).1, Mm.lst (x.h ++ (Mm.sample x.m b).2)⟩) bs false) (hK : Kept (fun g => g = x.q ∨ g = gn) wr w1) {s0 : Option Addr} (h0 : N'[k]? = some ⟨x.q, s0, x.m, x.h⟩) (hs : s' = s0 ∨ ∃ g, s' = some ⟨g, 0, none⟩ ∧ wr.heap.size ≤ g)
    {s2 : Option Addr} {c2 : Nat} (hE : EvAt w.heap.size w2 s2 c2 (evk N b k ++ (Mm.sample x.m b).2)) (hg : w1.grownBy w2 (sA.map (·.block))) (hp : ∀ g o, s2 = some ⟨g, o, none⟩ → sA = some ⟨g, o, none⟩ ∨ w1.heap.size ≤ g) :
    Mid w w2 p gn qb N bs b (k + 1) s2 c2 (N'.set k ⟨x.q, s', (Mm.sample x.m b).1, Mm.lst (x.h ++ (Mm.sample x.m b).2)⟩) := by
  have hmem : (⟨x.q, s0, x.m, x.h⟩ : Nd) ∈ N' := List.mem_of_getElem? h0
  have hfp := fpw_set (p := p) (gn := gn) (qb := qb) (B := wr.heap.size) (y := ⟨x.q, s', (Mm.sample x.m b).1, Mm.lst (x.h ++ (Mm.sample x.m b).2)⟩) h0 rfl hs
  have hsep : ∀ g o, sA = some ⟨g, o, none⟩ → ¬ fpw p gn qb (N'.set k ⟨x.q, s', (Mm.sample x.m b).1, Mm.lst (x.h ++ (Mm.sample x.m b).2)⟩) g := fun g o e hg => by
    have hlt := (h.ev.zero g o e).2.2
    rcases hfp g hg with k | k
    · exact h.sep g o e k
    · omega
  have hW2 : WI w2 p gn qb (N'.set k ⟨x.q, s', (Mm.sample x.m b).1, Mm.lst (x.h ++ (Mm.sample x.m b).2)⟩) bs false := hW.on (fun g hg' => hg.block g (hW.lt g hg') (fun e => by
    cases hsA : sA with
    | none => rw [hsA] at e; cases e
    | some a =>
      rw [hsA] at e
      have ha := h.ev.plain a hsA
      cases a with
      | mk b0 o0 sp =>
        dsimp only at ha
        subst ha
        have hb : b0 = g := by simpa using e.symm
        subst hb
        exact hsep _ _ hsA hg'))
  have hK2 : Kept (fun g => g = x.q ∨ g = gn ∨ ∃ o, sA = some ⟨g, o, none⟩) wr w2 := by
    refine (hK.mono (G := fun g => g = x.q ∨ g = gn ∨ ∃ o, sA = some ⟨g, o, none⟩) (fun g hg => hg.elim Or.inl (fun k => Or.inr (Or.inl k)))).trans (G := fun g => ∃ o, sA = some ⟨g, o, none⟩) ?_ (fun g hg => Or.inl (Or.inr (Or.inr hg)))
    refine ⟨hg.os, hg.tape, hg.output, hg.size, fun i hi hn => hg.block i hi (fun e => ?_)⟩
    cases hsA : sA with
    | none => rw [hsA] at e; cases e
    | some a =>
      rw [hsA] at e
      have ha := h.ev.plain a hsA
      cases a with
      | mk b0 o0 sp =>
        dsimp only at ha
        subst ha
        have hb : b0 = i := by simpa using e.symm
        subst hb
        exact hn ⟨o0, hsA⟩
  refine ⟨?_, hW2, sofar_next h.so hx s', ?_, ?_, ?_, ?_, h.tw⟩
  · rw [evk_next N b k x hx]; exact hE
  · intro g o e hg'
    rcases hp g o e with k | k
    · exact hsep g o k hg'
    · have := hW.lt g hg'
      omega
  · intro g hg'
    rcases hfp g hg' with k | k
    · exact h.fp g k
    · exact Or.inr (Nat.le_trans h.kept.size k)
  · refine h.kept.trans hK2 ?_
    rintro g (rfl | rfl | ⟨o, e⟩)
    · exact h.fp _ (Or.inr (Or.inr (Or.inr ⟨_, hmem, Or.inl rfl⟩)))
    · exact Or.inl (Or.inr (Or.inl rfl))
    · exact Or.inr (h.ev.zero _ _ e).2.1
  · refine h.tab.kept ?_ hK2
    rintro (e | e | ⟨o, e⟩)
    · exact tab_mac h.tab (h.wi.mac _ hmem) e
    · exact tab_gn h.tab h.wi e
    · have := (h.ev.zero _ _ e).2.1
      have := h.tw
      omega
end Go.Proofs.YthkaekpoicodeaaGreatDoor
