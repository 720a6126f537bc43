/- Small laws of the walk: a whole row stored or loaded in a block of the call's own, the world behind it told by what lies below. -/
import Derived.Test.YtnbfnipdiffphaaDoorU1
import Derived.WalkKit
import Derived.Lib.SlBytesRow
import Derived.WalkSpells
import Derived.WalkLawsBesides
import Derived.Laws.CopyOwn
import Derived.Laws.Tables
import Derived.Laws.Rows
import Derived.BigQuiet
import Derived.Test.YtnbfnipdiffphaaDoorRows
import Derived.StillTailTactics
namespace Go.Proofs.YtnbfnipdiffphaaDoor.Lw
open Go.RowKit

theorem wpList_store_rowB {P : Program} {ops : Array Oper} {rest : List Oper} {o : Oper} {a : Act} {w : World} {Q : Exit → Act → World → Prop} (hgd : o.guard = none) (ty : TypeId) (x y : Operand) (ho : o.op = .store ty x y)
    (g : Nat) (cells : Array Value) (hx : a.eval x = .pointer (some ⟨g, 0, none⟩)) (hy : a.eval y = .agg cells)
    (t : TypeId) (old : Array Value) (hg : w.heap[g]? = some (.cells old t (0, 0))) (hi : (P.info? ty).map (·.size) = some cells.size)
    (hold : old.size = cells.size) (h1 : cells.all (·.oneCell') = true) (B : Nat) (w0 : World) (hb : Below B w0 w) (hBg : B ≤ g)
    (h : ∀ w', Hid (w'.heap[g]? = some (.cells cells t (0, 0))) → Hid (∀ k, k ≠ g → w'.heap[k]? = w.heap[k]?) → Hid (w'.heap.size = w.heap.size) → Below B w0 w' → wpList P ops Q rest (a.put o.dst undef) w') :
    wpList P ops Q (o :: rest) a w :=
  wpList_store_row hgd ty x y ho g cells hx hy t old hg hi hold h1
    (h _ (setRow_heap w g _ _ t _ hg) (fun k hk => setRow_other w g k _ (fun e => hk (by omega))) (by show _ = _; simp) (below_setRow hb hBg _))

theorem cell_row {w : World} {g : Nat} {cs : List Value} {t : TypeId} (hg : w.heap[g]? = some (.cells cs.toArray t (0, 0))) (j : Nat) (v : Value) (hv : cs[j]? = some v) : w.cell? ((⟨g, 0, none⟩ : Addr).add j) = some v := by
  have hadd : (⟨g, 0, none⟩ : Addr).add j = ⟨g, j, none⟩ := by unfold Addr.add; split <;> simp_all
  rw [hadd, cell_of_row w g j cs.toArray t (0, 0) hg]
  simpa using hv

/-- x[l:] of a whole array of one-cell elements that lies in a block. -/
theorem run_sliceArr {P : Program} (t e : TypeId) (n l : Nat) (ht : P.underlying t = some (.array n e)) (hz : (P.info? e).map (·.size) = some 1) (g : Nat) (x : Int) (hx : x = (l : Int)) (hl : l < n) (W : World) :
    (Instr.sliceAt t (.pointer (some ⟨g, 0, none⟩)) (some (.int .i64 x)) none none).run P W = .ok (.slice (some ⟨g, l, none⟩) (n - l) (n - l)) W := by
  have ea : P.arrayLen t = n := by simp [Program.arrayLen, ht]
  have ee : P.elem t = e := by simp [Program.elem, ht]
  have ht' : P.underlying t = some (.array (P.arrayLen t) (P.elem t)) := by rw [ea, ee]; exact ht
  subst hx
  rw [run_sliceAt_array_l (P := P) W t ⟨g, 0, none⟩ ht' .i64 (l : Int) (by omega) (by rw [ea]; omega)]
  rw [ea, ee]
  cases hq : P.info? e with
  | none => simp [hq] at hz
  | some i =>
    have hs : i.size = 1 := by simpa [hq] using hz
    have hne : ¬ n = l := by omega
    simp [sizeOf, typeInfo, hq, hs, slicedAt, hne, Addr.add]
    intro h; exact h.symm

/-- string(x[o:o+n]) of a row of bytes that lies in a block. -/
theorem run_conv_row {P : Program} {w : World} {g : Nat} {l : List UInt8} {t : TypeId} (hg : w.heap[g]? = some (.cells (Bm.cellsOf l).toArray t (0, 0))) (src e dst : TypeId) (hs : P.underlying src = some (.slice e)) (he : P.underlying e = some (.int .u8))
    (hd : P.underlying dst = some .string) (o n cap : Nat) (h : o + n ≤ l.length) (res : List UInt8) (hres : res = (l.drop o).take n) :
    (convert src dst (.slice (some ⟨g, o, none⟩) n cap)).run P w = .ok (.string ⟨res.toArray⟩) w := by
  subst hres
  have hc : Lib.Bytes w g 0 ⟨l.toArray⟩ := fun i hi => by
    rw [cell_of_row w g (0 + i) _ t (0, 0) hg]
    have hi' : i < l.length := hi
    simp [Bm.cellsOf, hi']
    rfl
  have hr := Lib.run_convert_window (P := P) w src e dst hs he hd g 0 ⟨l.toArray⟩ hc o n cap h
  rw [Nat.zero_add] at hr
  rw [hr]
  congr 2
  apply ByteArray.ext
  apply Array.toList_inj.1
  rw [Lib.extract_data]
  simp

/-- make([]byte, n): the new row, told whole. -/
theorem run_makeBytes {P : Program} (t e : TypeId) (ht : P.underlying t = some (.slice e)) (hinfo : (P.info? e).map (fun i => (i.zero, i.size, i.bytes)) = some (some (.int .u8 0), 1, 1)) (x : Int) (n : Nat) (hx : x = (n : Int)) (hn : n ≤ 281474976710656) (W : World) :
    (Instr.makeSlice t (.int .i64 x) (.int .i64 x)).run P W = .ok (.slice (some ⟨W.heap.size, 0, none⟩) n n) (W.alloc (.cells (Bm.fillV [] n).toArray e)) := by
  obtain ⟨i0, hi, hz0, hz1, hz2⟩ := info_parts hinfo
  subst hx
  have h := run_make (P := P) W t e i0 (.int .u8 0) ht hi hz0 .i64 .i64 (n : Int) (n : Int) (by omega) (Int.le_refl _) (by rw [hz2]; omega) (by omega)
  rw [h]
  simp only [Int.toNat_natCast, hz1, Nat.mul_one]
  congr 3
  apply Array.toList_inj.1
  rw [show (Value.int IntKind.u8 0).cells = #[Value.int IntKind.u8 0] from rfl, toList_madeCells_one, Bm.fillV_nil]

/-- x[l:] of a slice of one-cell elements. -/
theorem run_sliceSl {P : Program} (t e : TypeId) (ht : P.underlying t = some (.slice e)) (hz : (P.info? e).map (·.size) = some 1) (g len cap : Nat) (x : Int) (l : Nat) (hx : x = (l : Int)) (hl : l ≤ len) (hc : l < cap) (_hlc : len ≤ cap) (W : World) :
    (Instr.slice t (.slice (some ⟨g, 0, none⟩) len cap) (some (.int .i64 x)) none none).run P W = .ok (.slice (some ⟨g, l, none⟩) (len - l) (cap - l)) W := by
  have ee : P.elem t = e := by simp [Program.elem, ht]
  have ht' : P.underlying t = some (.slice (P.elem t)) := by rw [ee]; exact ht
  subst hx
  rw [run_slice_l (P := P) W t (some ⟨g, 0, none⟩) len cap ht' .i64 (l : Int) (by omega) (by omega)]
  rw [ee]
  cases hq : P.info? e with
  | none => simp [hq] at hz
  | some i =>
    have hs : i.size = 1 := by simpa [hq] using hz
    have hne : ¬ cap = l := by omega
    simp [sizeOf, typeInfo, hq, hs, sliced, hne, Addr.add]
    intro h; exact h.symm

/-- A region that draws its order, whose operations only read and whose callees leave all that was there as it was: walked once, in the order of the text. -/
theorem wp_region_quiet_below {P : Program} {id : Nat} {Q : Exit → Act → World → Prop} {a : Act} {w : World} {l : List Oper} (hm : P.follows .mixedOrders = true) (hB : Region.lexB .any l.toArray = true)
    (h : wpQuiet P l.toArray (fun w' => Below w.heap.size w w') (fun a' => ∀ w', Below w.heap.size w w' → Q .normal a' w') l a) : (Code.region id l.toArray true).wp P Q a w :=
  wp_region_quiet (C := fun w' => Below w.heap.size w w') hm hB ((Below.refl _ _).drew) (by simpa using h)
theorem calls_below {P : Program} {f : FuncId} {args : Array Value} {w w' : World} {v : Value} (hb : Below w.heap.size w w')
    (h : Calls P f args w' fun e w'' => e = .returned v ∧ Below w'.heap.size w' w'') : Calls P f args w' fun e w'' => e = .returned v ∧ Below w.heap.size w w'' :=
  h.mono fun _ _ ⟨he, hw⟩ => ⟨he, hb.trans (hw.mono hb.size)⟩
theorem calls_same {P : Program} {f : FuncId} {args : Array Value} {w w' : World} {v : Value} (hb : Below w.heap.size w w')
    (h : Calls P f args w' fun e w'' => e = .returned v ∧ w'' = w') : Calls P f args w' fun e w'' => e = .returned v ∧ Below w.heap.size w w'' :=
  h.mono fun _ _ ⟨he, hw⟩ => ⟨he, hw ▸ hb⟩
theorem calls_belowB {P : Program} {f : FuncId} {args : Array Value} {B : Nat} {w w' : World} {v : Value} (hB : B = w.heap.size) (hb : Below B w w')
    (h : Calls P f args w' fun e w'' => e = .returned v ∧ Below w'.heap.size w' w'') : Calls P f args w' fun e w'' => e = .returned v ∧ Below B w w'' := by
  subst hB; exact calls_below hb h
theorem calls_sameB {P : Program} {f : FuncId} {args : Array Value} {B : Nat} {w w' : World} {v : Value} (hb : Below B w w')
    (h : Calls P f args w' fun e w'' => e = .returned v ∧ w'' = w') : Calls P f args w' fun e w'' => e = .returned v ∧ Below B w w'' :=
  h.mono fun _ _ ⟨he, hw⟩ => ⟨he, hw ▸ hb⟩
theorem val_rfl (v : Value) : v = v := rfl
/-- What is owned stays owned where the blocks from the base on stand as they stood. -/
theorem owns_keep {w w' : World} {base : Nat} {e : TypeId} {size : Nat} {v : Value} {n : Nat} {xs : List Value} (h : w.ownsRow base e size v n xs) (hk : ∀ g, base ≤ g → g < w.heap.size → w'.heap[g]? = w.heap[g]?) : w'.ownsRow base e size v n xs := by
  obtain ⟨h1, h2⟩ := h
  refine ⟨h1, ?_⟩
  rcases h2 with h2 | ⟨g, cap, cur, hv, hg, hh, r⟩
  · exact Or.inl h2
  · exact Or.inr ⟨g, cap, cur, hv, hg, by rw [hk g hg (Array.getElem?_eq_some_iff.1 hh).1]; exact hh, r⟩
/-- A block below the base stands behind an append to what is owned from the base on. -/
theorem grow_block {w w3 : World} {B : Nat} {e : TypeId} {size n : Nat} {v : Value} {xs : List Value} {O : Obj} (h : w.ownsRow (B + 1) e size v n xs) (hg : (w.alloc O).grownBy w3 v.ownBlock) (hB : B < w.heap.size) : w3.heap[B]? = w.heap[B]? := by
  rw [hg.block B (by simp; omega) (fun he => by have := (h.lt B he.symm).1; omega)]
  exact Below.heap_alloc _ _ _ hB
theorem grow_below {w0 w w3 : World} {B : Nat} {e : TypeId} {size n : Nat} {v : Value} {xs : List Value} {O : Obj} (hb : Below B w0 w) (h : w.ownsRow (B + 1) e size v n xs) (hg : (w.alloc O).grownBy w3 v.ownBlock) (hB : B ≤ w.heap.size) : Below B w0 w3 :=
  (hb.alloc hB _).grown hg (by simp; omega) (fun g hg => by have := (h.lt g hg).1; omega)
/-- Two cells of a block written. -/
theorem two_cells {w : World} {B : Nat} {a b a' b' : Value} {t : TypeId} (h : w.heap[B]? = some (.cells #[a, b] t (0, 0))) : ((w.setCell ⟨B, 0, none⟩ a').setCell ⟨B, 1, none⟩ b').heap[B]? = some (.cells #[a', b'] t (0, 0)) := by
  rw [heap_setCell_same _ B 1 #[a', b] t b' (by rw [heap_setCell_same _ B 0 #[a, b] t a' h]; rfl)]
  rfl
theorem two_other {w : World} {B g : Nat} {a' b' : Value} (h : g ≠ B) : ((w.setCell ⟨B, 0, none⟩ a').setCell ⟨B, 1, none⟩ b').heap[g]? = w.heap[g]? := by
  rw [heap_setCell_other _ ⟨B, 1, none⟩ g b' h, heap_setCell_other _ ⟨B, 0, none⟩ g a' h]
theorem cell0 {w : World} {B : Nat} {a b : Value} {t : TypeId} (h : w.heap[B]? = some (.cells #[a, b] t (0, 0))) : w.cell? ⟨B, 0, none⟩ = some a := by rw [cell_of_row _ _ _ _ _ _ h]; rfl
theorem cell1 {w : World} {B : Nat} {a b : Value} {t : TypeId} (h : w.heap[B]? = some (.cells #[a, b] t (0, 0))) : w.cell? ⟨B, 1, none⟩ = some b := by rw [cell_of_row _ _ _ _ _ _ h]; rfl
theorem owns_two {w : World} {B : Nat} {e : TypeId} {size : Nat} {v : Value} {n : Nat} {xs : List Value} {a' b' : Value} (h : w.ownsRow (B + 1) e size v n xs) : ((w.setCell ⟨B, 0, none⟩ a').setCell ⟨B, 1, none⟩ b').ownsRow (B + 1) e size v n xs :=
  owns_keep h (fun g hg _ => two_other (by omega))
theorem size_two {w : World} {B : Nat} {a' b' : Value} : ((w.setCell ⟨B, 0, none⟩ a').setCell ⟨B, 1, none⟩ b').heap.size = w.heap.size := by simp
theorem below_two {w0 w : World} {B : Nat} {a' b' : Value} (h : Below B w0 w) : Below B w0 ((w.setCell ⟨B, 0, none⟩ a').setCell ⟨B, 1, none⟩ b') := (h.setCell (Nat.le_refl _) _).setCell (Nat.le_refl _) _
theorem one_new_two {w : World} {B : Nat} {a' b' v : Value} {e : TypeId} : ∀ (j : Nat) (u : Value), [v][j]? = some u → (((w.setCell ⟨B, 0, none⟩ a').setCell ⟨B, 1, none⟩ b').alloc (.cells #[v] e)).cell? ((⟨w.heap.size, 0, none⟩ : Addr).add j) = some u := by
  intro j u h
  have := cell_one_new ((w.setCell ⟨B, 0, none⟩ a').setCell ⟨B, 1, none⟩ b') v e j u h
  rwa [size_two] at this
/-- make([]byte, 0, n): the new row, told whole. -/
theorem run_makeCap {P : Program} (t e : TypeId) (ht : P.underlying t = some (.slice e)) (hinfo : (P.info? e).map (fun i => (i.zero, i.size, i.bytes)) = some (some (.int .u8 0), 1, 1)) (x : Int) (n : Nat) (hx : x = (n : Int)) (hn : n ≤ 281474976710656) (W : World) :
    (Instr.makeSlice t (.int .i64 0) (.int .i64 x)).run P W = .ok (.slice (some ⟨W.heap.size, 0, none⟩) 0 n) (W.alloc (.cells (Bm.fillV [] n).toArray e)) := by
  obtain ⟨i0, hi, hz0, hz1, hz2⟩ := info_parts hinfo
  subst hx
  have h := run_make (P := P) W t e i0 (.int .u8 0) ht hi hz0 .i64 .i64 0 (n : Int) (by omega) (by omega) (by rw [hz2]; omega) (by omega)
  rw [h]
  simp only [Int.toNat_natCast, hz1, Nat.mul_one]
  congr 3
  apply Array.toList_inj.1
  rw [show (Value.int IntKind.u8 0).cells = #[Value.int IntKind.u8 0] from rfl, toList_madeCells_one, Bm.fillV_nil]
theorem owns_cap (w : World) (base n : Nat) (e : TypeId) (hb : base ≤ w.heap.size) (hn : n ≤ maxLen) : (w.alloc (.cells (Bm.fillV [] n).toArray e)).ownsRow base e 1 (.slice (some ⟨w.heap.size, 0, none⟩) 0 n) 0 (Bm.cellsOf (Bm.row [])) :=
  World.ownsRow_made w _ n hb hn (by rw [Bm.fillV_nil]; simp)
/-- A row that is owned lies in no block of another type. -/
theorem own_ne {w : World} {base B : Nat} {e t : TypeId} {size n : Nat} {v : Value} {xs : List Value} {cs : Array Value} (h : w.ownsRow base e size v n xs) (hB : w.heap[B]? = some (.cells cs t (0, 0))) (ht : t ≠ e) : some B ≠ v.ownBlock := by
  intro he
  rcases h.2 with ⟨rfl, _⟩ | ⟨g, cap, cur, rfl, _, hg, _⟩
  · cases he
  · have : B = g := by simpa [Value.ownBlock] using he
    subst this
    rw [hB] at hg
    injection hg with hg
    injection hg with _ hg _
    exact ht hg
theorem grow_block_t {w w3 : World} {base B : Nat} {e t : TypeId} {size n : Nat} {v : Value} {xs : List Value} {cs : Array Value} {O : Obj} (h : w.ownsRow base e size v n xs) (hB : w.heap[B]? = some (.cells cs t (0, 0))) (ht : t ≠ e) (hg : (w.alloc O).grownBy w3 v.ownBlock) : w3.heap[B]? = some (.cells cs t (0, 0)) := by
  have hlt : B < w.heap.size := (Array.getElem?_eq_some_iff.1 hB).1
  rw [hg.block B (by simp; omega) (own_ne h hB ht), Below.heap_alloc _ _ _ hlt]
  exact hB
theorem grow_below_t {w0 w w3 : World} {B : Nat} {e : TypeId} {size n : Nat} {v : Value} {xs : List Value} {O : Obj} (hb : Below B w0 w) (h : w.ownsRow B e size v n xs) (hg : (w.alloc O).grownBy w3 v.ownBlock) (hB : B ≤ w.heap.size) : Below B w0 w3 :=
  (hb.alloc hB _).grown hg (by simp; omega) (fun g hg => (h.lt g hg).1)
theorem owns_two_t {w : World} {base B : Nat} {e t : TypeId} {size : Nat} {v : Value} {n : Nat} {xs : List Value} {a' b' : Value} {cs : Array Value} (h : w.ownsRow base e size v n xs) (hB : w.heap[B]? = some (.cells cs t (0, 0))) (ht : t ≠ e) : ((w.setCell ⟨B, 0, none⟩ a').setCell ⟨B, 1, none⟩ b').ownsRow base e size v n xs := by
  have hne := own_ne h hB ht
  obtain ⟨h1, h2⟩ := h
  refine ⟨h1, ?_⟩
  rcases h2 with h2 | ⟨g, cap, cur, hv, hg, hh, r⟩
  · exact Or.inl h2
  · refine Or.inr ⟨g, cap, cur, hv, hg, ?_, r⟩
    rw [two_other (fun e => hne (by rw [hv, e]; rfl))]
    exact hh
theorem below_two_t {w0 w : World} {B E : Nat} {a' b' : Value} (hE : B ≤ E) (h : Below B w0 w) : Below B w0 ((w.setCell ⟨E, 0, none⟩ a').setCell ⟨E, 1, none⟩ b') := (h.setCell hE _).setCell hE _
end Go.Proofs.YtnbfnipdiffphaaDoor.Lw
/- What all walks share: endings, the world behind two calls, string(b) of a slice of bytes that the call itself made. -/
namespace Go.Proofs.YtnbfnipdiffphaaDoor
open Go.RowKit
theorem ret_int {k : IntKind} {a b : Int} (h : a = b) : Ending.returned (.int k a) = .returned (.int k b) := by rw [h]
theorem ret_bool {a b : Bool} (h : a = b) : Ending.returned (.bool a) = .returned (.bool b) := by rw [h]
theorem ret_str {a b : List UInt8} (h : a = b) : Ending.returned (.string ⟨a.toArray⟩) = .returned (.string ⟨b.toArray⟩) := by rw [h]
theorem below_join {a b c : World} (h : Below a.heap.size a b) (k : Below b.heap.size b c) : Below a.heap.size a c := h.trans (k.mono h.size)
theorem Tryd.infoU8 : (Tryd.prog.info? 5).map (fun i => (i.zero, i.size, i.bytes)) = some (some (.int .u8 0), 1, 1) := by kernel_rfl
theorem size_str (l : List UInt8) : (ByteArray.mk l.toArray).size = l.length := by show l.toArray.size = _; simp
end Go.Proofs.YtnbfnipdiffphaaDoor
/- Laws of the walk: blocks that stay, rows of four and of eight cells, a region that draws and ends in a store. -/
namespace Go.Proofs.YtnbfnipdiffphaaDoor
open Go.RowKit
theorem below_cast {B B' : Nat} {w w' : World} (h : B = B') (hb : Below B w w') : Below B' w w' := h ▸ hb
theorem block_on {a b : World} {g : Nat} {O : Obj} (hz : g < a.heap.size) (hb5 : Below a.heap.size a b) (HV : a.heap[g]? = some O) : b.heap[g]? = some O := (hb5.block g hz).trans HV
theorem block_on2 {a b c : World} {g : Nat} {O : Obj} (hz : g < a.heap.size) (hb5 : Below a.heap.size a b) (hb6 : Below b.heap.size b c) (HV : a.heap[g]? = some O) : c.heap[g]? = some O :=
  block_on (Nat.lt_of_lt_of_le hz hb5.size) hb6 (block_on hz hb5 HV)
theorem four_cells {w : World} {g : Nat} {a b c d : Value} {t : TypeId} (h : w.heap[g]? = some (.cells #[a, b, c, d] t (0, 0))) :
    w.cell? ⟨g, 0, none⟩ = some a ∧ w.cell? ⟨g, 1, none⟩ = some b ∧ w.cell? ⟨g, 2, none⟩ = some c ∧ w.cell? ⟨g, 3, none⟩ = some d ∧ w.frozen? ⟨g, 0, none⟩ = false ∧ w.frozen? ⟨g, 1, none⟩ = false ∧ w.frozen? ⟨g, 2, none⟩ = false ∧ w.frozen? ⟨g, 3, none⟩ = false :=
  ⟨by rw [cell_of_row _ _ _ _ _ _ h]; rfl, by rw [cell_of_row _ _ _ _ _ _ h]; rfl, by rw [cell_of_row _ _ _ _ _ _ h]; rfl, by rw [cell_of_row _ _ _ _ _ _ h]; rfl, frozen_of_row _ _ 0 _ _ h, frozen_of_row _ _ 1 _ _ h, frozen_of_row _ _ 2 _ _ h, frozen_of_row _ _ 3 _ _ h⟩
theorem Lw.region_tail {P : Program} {id : Nat} {Q : Exit → Act → World → Prop} {a : Act} {w : World} {l : List Oper} (n : Nat) (hm : P.follows .mixedOrders = true) (hB : Region.lexTailB .any l.toArray n = true)
    (h : ∀ w1, w1 = w.drew → wpStill P l.toArray w1 (fun a' => wpList P l.toArray Q (l.drop n) a' w1) (l.take n) a) : (Code.region id l.toArray true).wp P Q a w :=
  wp_region_still_tail n hm hB (h _ rfl)
theorem eight_cells {w : World} {g : Nat} {a b c d a' b' c' d' : Value} {t : TypeId} (h : w.heap[g]? = some (.cells #[a, b, c, d, a', b', c', d'] t (0, 0))) :
    w.cell? ⟨g, 0, none⟩ = some a ∧ w.cell? ⟨g, 1, none⟩ = some b ∧ w.cell? ⟨g, 2, none⟩ = some c ∧ w.cell? ⟨g, 3, none⟩ = some d ∧ w.cell? ⟨g, 4, none⟩ = some a' ∧ w.cell? ⟨g, 5, none⟩ = some b' ∧ w.cell? ⟨g, 6, none⟩ = some c' ∧ w.cell? ⟨g, 7, none⟩ = some d' ∧
    w.frozen? ⟨g, 0, none⟩ = false ∧ w.frozen? ⟨g, 1, none⟩ = false ∧ w.frozen? ⟨g, 2, none⟩ = false ∧ w.frozen? ⟨g, 3, none⟩ = false ∧ w.frozen? ⟨g, 4, none⟩ = false ∧ w.frozen? ⟨g, 5, none⟩ = false ∧ w.frozen? ⟨g, 6, none⟩ = false ∧ w.frozen? ⟨g, 7, none⟩ = false :=
  ⟨by rw [cell_of_row _ _ _ _ _ _ h]; rfl, by rw [cell_of_row _ _ _ _ _ _ h]; rfl, by rw [cell_of_row _ _ _ _ _ _ h]; rfl, by rw [cell_of_row _ _ _ _ _ _ h]; rfl, by rw [cell_of_row _ _ _ _ _ _ h]; rfl, by rw [cell_of_row _ _ _ _ _ _ h]; rfl, by rw [cell_of_row _ _ _ _ _ _ h]; rfl, by rw [cell_of_row _ _ _ _ _ _ h]; rfl,
    frozen_of_row _ _ 0 _ _ h, frozen_of_row _ _ 1 _ _ h, frozen_of_row _ _ 2 _ _ h, frozen_of_row _ _ 3 _ _ h, frozen_of_row _ _ 4 _ _ h, frozen_of_row _ _ 5 _ _ h, frozen_of_row _ _ 6 _ _ h, frozen_of_row _ _ 7 _ _ h⟩
end Go.Proofs.YtnbfnipdiffphaaDoor
