/- Package bus, over the landed code: Trace. -/
import Derived.Test.YthblfldnlfopcaaJb
namespace Go.Proofs.Ythblfldnlfopcaa
open Go.RowKit
set_option linter.unusedVariables false
theorem binfo1 : (Try.prog.info? 5).map (·.size) = some 1 := by kernel_rfl
theorem binfo3 : (Try.prog.info? 5).map (fun i => (i.zero, i.size, i.bytes)) = some (some (.int .u8 0), 1, 1) := by kernel_rfl
/-- x[l:] of a slice of one-cell elements, to its end, too. -/
theorem Lw.run_sliceEnd {P : Program} (t e : TypeId) (ht : P.underlying t = some (.slice e)) (hz : (P.info? e).map (·.size) = some 1) (g len : Nat) (x : Int) (l : Nat) (hx : x = (l : Int)) (hl : l ≤ len) :
    ∃ dp, (∀ W, (Instr.slice t (.slice (some ⟨g, 0, none⟩) len len) (some (.int .i64 x)) none none).run P W = .ok (.slice dp (len - l) (len - l)) W) ∧ (0 < len - l → dp = some ⟨g, l, none⟩) := by
  have ee : P.elem t = e := by simp [Program.elem, ht]
  have ht' : P.underlying t = some (.slice (P.elem t)) := by rw [ee]; exact ht
  subst hx
  refine ⟨if len = l then some ⟨g, 0, none⟩ else some ⟨g, l, none⟩, fun W => ?_, fun h => if_neg (by omega)⟩
  rw [run_slice_l (P := P) W t (some ⟨g, 0, none⟩) len len ht' .i64 (l : Int) (by omega) (by omega)]
  rw [ee]
  cases hq : P.info? e with
  | none => simp [hq] at hz
  | some i =>
    have hs : i.size = 1 := by simpa [hq] using hz
    by_cases hc : len = l
    · simp [sizeOf, typeInfo, hq, hs, sliced, hc]
    · simp [sizeOf, typeInfo, hq, hs, sliced, hc, Addr.add]
      intro h; exact h.symm
/-- x[:] of a whole array of one-cell elements that lies in a block. -/
theorem Lw.run_sliceAll {P : Program} (t e : TypeId) (n : Nat) (ht : P.underlying t = some (.array n e)) (hz : (P.info? e).map (·.size) = some 1) (g : Nat) (W : World) :
    (Instr.sliceAt t (.pointer (some ⟨g, 0, none⟩)) none none none).run P W = .ok (.slice (some ⟨g, 0, none⟩) n n) W := by
  have ea : P.arrayLen t = n := by simp [Program.arrayLen, ht]
  have ee : P.elem t = e := by simp [Program.elem, ht]
  have ht' : P.underlying t = some (.array (P.arrayLen t) (P.elem t)) := by rw [ea, ee]; exact ht
  rw [run_sliceAt_array_all (P := P) W t ⟨g, 0, none⟩ ht']
  rw [ea, ee]
  cases hq : P.info? e with
  | none => simp [hq] at hz
  | some i =>
    have hs : i.size = 1 := by simpa [hq] using hz
    simp [sizeOf, typeInfo, hq, hs, slicedAt, Addr.add]
theorem bring_cell {w : World} {p : Nat} {rg : List UInt8} {n : Nat} {fl : Bool} (h : BRow w p rg n fl) (e m : Nat) (j : Nat) (v : Value) (hv : (Bm.cellsOf ((rg.drop e).take m))[j]? = some v) : w.cell? ((⟨p, e, none⟩ : Addr).add j) = some v := by
  have hadd : (⟨p, e, none⟩ : Addr).add j = ⟨p, e + j, none⟩ := by unfold Addr.add; split <;> simp_all
  rw [hadd, cell_of_row _ _ _ _ _ _ h.1]
  have hj : j < ((rg.drop e).take m).length := by
    have := (List.getElem?_eq_some_iff.1 hv).1; simpa [Bm.cellsOf] using this
  simp only [List.length_take, List.length_drop] at hj
  have hj2 : e + j < rg.length := by omega
  have hj3 : e + j < (Bm.cellsOf rg).length := by simpa [Bm.cellsOf] using hj2
  unfold bcs
  rw [List.getElem?_toArray, List.getElem?_append_left hj3]
  rw [← hv]
  simp [Bm.cellsOf, show j < m by omega]
theorem bsplice {L A : Nat} (X Y : List UInt8) (hA : X.length = A) (hY : Y.length = L - A) (hle : A ≤ L) : splice (splice (Bm.fillV [] L) 0 (Bm.cellsOf X)) A (Bm.cellsOf Y) = Bm.cellsOf (X ++ Y) := by
  have h0 : (Bm.fillV [] L).length = L := by simp [Bm.fillV, Bm.cellsOf]
  have hX : (Bm.cellsOf X).length = A := by simp [Bm.cellsOf, hA]
  have hYl : (Bm.cellsOf Y).length = L - A := by simp [Bm.cellsOf, hY]
  unfold splice
  simp only [List.take_zero, List.nil_append, hX, hYl, Nat.zero_add]
  rw [List.take_left' hX, List.drop_eq_nil_of_le (by simp [hX, h0])]
  simp [Bm.cellsOf]
set_option maxHeartbeats 2000000 in
set_option maxRecDepth 100000 in
theorem btrace_any (w : World) (p : Nat) (rg : List UInt8) (n : Nat) (fl : Bool) (h : BRow w p rg n fl) (hn : n ≤ 1000000) (L E A : Nat) (hL : L = min n 4000) (hE : E = (n - L) % 4000) (hA : A = min (4000 - E) L) :
    Calls Try.prog 13 #[bptr p] w fun e w' => e = .returned (.string ⟨((rg.drop E).take A ++ (rg.drop 0).take (L - A)).toArray⟩) ∧ Below w.heap.size w w' := by
  have c1 := h.cn
  have HA : Hid (∀ o, BRow (w.alloc o) p rg n fl) := fun o => ⟨(Below.heap_alloc _ _ _ h.lt).trans h.1, h.2⟩
  have c2 : ∀ o, (w.alloc o).cell? ⟨p, 4000, none⟩ = some (.int .i64 n) := fun o => (HA.out o).cn
  have hLn : L ≤ n := by omega
  have hE4 : E < 4000 := by omega
  have hL4 : L ≤ 4000 := by omega
  have hAL : A ≤ L := by omega
  have e1 : min n 4000 = L := hL.symm
  have e3 : min (n : Int) 4000 = (L : Int) := by omega
  have e2 : ((n : Int) - (L : Int)).tmod 4000 = (E : Int) := by rw [Int.tmod_eq_emod_of_nonneg (by omega)]; omega
  have hmk := fun W => Lw.run_makeBytes (P := Try.prog) 30 5 Try.underlying30 binfo3 (L : Int) L rfl (by omega) W
  have hsl := fun W => Lw.run_sliceArr (P := Try.prog) 36 5 4000 E Try.underlying36 binfo1 p (E : Int) rfl hE4 W
  have hal := fun W => Lw.run_sliceAll (P := Try.prog) 36 5 4000 Try.underlying36 binfo1 p W
  obtain ⟨dp, hse, hdp⟩ := Lw.run_sliceEnd (P := Try.prog) 30 5 Try.underlying30 binfo1 w.heap.size L (A : Int) A rfl hAL
  have HR : Hid (BRow w p rg n fl) := h
  have HL : Hid (rg.length = 4000) := h.2
  obtain ⟨X, hX⟩ : ∃ X, X = (rg.drop E).take A := ⟨_, rfl⟩
  obtain ⟨Y, hY⟩ : ∃ Y, Y = (rg.drop 0).take (L - A) := ⟨_, rfl⟩
  have HX : Hid (X.length = A) := by show _ = _; rw [hX]; simp [h.2]; omega
  have HY : Hid (Y.length = L - A) := by show _ = _; rw [hY]; simp [h.2]; omega
  rw [← hX, ← hY]
  have HXe : Hid (X = (rg.drop E).take A) := hX
  have HYe : Hid (Y = (rg.drop 0).take (L - A)) := hY
  have HN : Hid ((Bm.cellsOf X).length = Nat.min (4000 - E) L) := by show _ = _; rw [Bm.length_cellsOf, HX.out, hA]
  clear h hL hE hA hX hY
  go_enter Try.func13, Try.ntmps13
  have hXL : (Bm.cellsOf X).length = A := by rw [Bm.length_cellsOf, HX.out]
  have HF : Hid (0 + (Bm.cellsOf X).length ≤ (Bm.fillV [] L).length) := by show _ ≤ _; rw [Bm.length_cellsOf, HX.out]; simp [Bm.fillV, Bm.cellsOf, hAL]
  have HC : Hid (∀ o j v, (Bm.cellsOf X)[j]? = some v → (w.alloc o).cell? ((⟨p, E, none⟩ : Addr).add j) = some v) := fun o j v hv => bring_cell (HA.out o) E A j v (HXe.out ▸ hv)
  go_wp2_with (refine wpList_copy_splice (P := Try.prog) rfl (.tmp 20) (.tmp 25) 30 30 rfl 5 Try.underlying30 binfo1 (some ⟨w.heap.size, 0, none⟩) (some ⟨p, E, none⟩) L L (4000 - E) (4000 - E) rfl rfl w.heap.size 0 (Bm.fillV [] L) 5 (heap_alloc_new _ _) (Bm.cellsOf X) HN.out (fun _ => ⟨rfl, _, rfl, HC.out _⟩) HF.out (Bm.oneCell_cellsOf _) w.heap.size w ((Below.refl _ _).alloc (Nat.le_refl _) _) (Nat.le_refl _) ?_; intro w2 HG2 hb2)
  refine Lw.region_tail 7 (by kernel_rfl) (by kernel_rfl) ?_
  intro w3 hw3
  have hb3 : Below w.heap.size w w3 := hw3 ▸ hb2.drew
  have HG3 : Hid (w3.heap[w.heap.size]? = some (.cells (splice (Bm.fillV [] L) 0 (Bm.cellsOf X)).toArray 5 (0, 0))) := by subst hw3; exact HG2.out
  have HR3 : BRow w3 p rg n fl := ⟨(hb3.block p HR.out.lt).trans HR.out.1, HR.out.2⟩
  have HC3 : Hid (∀ j v, (Bm.cellsOf Y)[j]? = some v → w3.cell? ((⟨p, 0, none⟩ : Addr).add j) = some v) := fun j v hv => bring_cell HR3 0 (L - A) j v (HYe.out ▸ hv)
  have HN3 : Hid ((Bm.cellsOf Y).length = Nat.min 4000 (L - A)) := by show _ = _; rw [Bm.length_cellsOf, HY.out]; exact (Nat.min_eq_right (by omega)).symm
  have HF3 : Hid (A + (Bm.cellsOf Y).length ≤ (splice (Bm.fillV [] L) 0 (Bm.cellsOf X)).length) := by
    show _ ≤ _
    rw [length_splice _ _ _ HF.out, Bm.length_cellsOf, HY.out]; simp [Bm.fillV, Bm.cellsOf]; omega
  have HP3 : Hid (0 < (Bm.cellsOf Y).length → dp = some ⟨w.heap.size, A, none⟩ ∧ ∃ ad, some (⟨p, 0, none⟩ : Addr) = some ad ∧ ∀ j v, (Bm.cellsOf Y)[j]? = some v → w3.cell? (ad.add j) = some v) := fun h0 => ⟨hdp (by rw [Bm.length_cellsOf, HY.out] at h0; exact h0), _, rfl, HC3.out⟩
  clear hw3 HG2 hb2 HR3 hmk hsl
  simp only [List.take_succ_cons, List.take_zero, List.drop_succ_cons, List.drop_zero]
  repeat (first | still_step)
  refine wpStill_nil ?_
  go_wp2_with (refine wpList_copy_splice (P := Try.prog) rfl (.tmp 29) (.tmp 33) 30 30 rfl 5 Try.underlying30 binfo1 dp (some ⟨p, 0, none⟩) (L - A) (L - A) 4000 4000 rfl rfl w.heap.size A _ 5 HG3.out (Bm.cellsOf Y) HN3.out HP3.out HF3.out (Bm.oneCell_cellsOf _) w.heap.size w hb3 (Nat.le_refl _) ?_; intro w4 HG4 hb4)
  have HG5 : w4.heap[w.heap.size]? = some (.cells (Bm.cellsOf (X ++ Y)).toArray 5 (0, 0)) := by rw [← bsplice X Y HX.out HY.out hAL]; exact HG4.out
  have hconv := Lw.run_conv_row (P := Try.prog) HG5 30 5 9 Try.underlying30 Try.underlying5 Try.underlying9 0 L L (by rw [List.length_append, HX.out, HY.out]; omega) (X ++ Y) (by rw [List.drop_zero, List.take_of_length_le]; rw [List.length_append, HX.out, HY.out]; omega)
  clear HG4 HG5 hse hal
  rw [hconv]
  simp only [Result.andThen]
  rw [Oper.upon_value]
  go_wp2
  go_ret
  exact ⟨rfl, hb4⟩
end Go.Proofs.Ythblfldnlfopcaa
