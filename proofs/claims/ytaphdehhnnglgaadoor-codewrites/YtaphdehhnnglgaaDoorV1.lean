/- The document's own reader of frames: its cells, what Right and behind answer, over its text. -/
import Derived.Test.YtaphdehhnnglgaaDoorMa
import Derived.Test.YtaphdehhnnglgaaDoorMe
import Derived.Test.YtaphdehhnnglgaaDoorMb
import Derived.Deep.QuietTactic
import Derived.BigQuiet
namespace Go.Proofs.YtaphdehhnnglgaaDoor
open Go.RowKit
/-- All blocks but one stand. -/
def But (g : Nat) (w w' : World) : Prop := w'.os = w.os ∧ w'.tape = w.tape ∧ w'.output = w.output ∧ w.heap.size ≤ w'.heap.size ∧ ∀ j, j < w.heap.size → j ≠ g → w'.heap[j]? = w.heap[j]?
theorem But.refl (g : Nat) (w : World) : But g w w := ⟨rfl, rfl, rfl, Nat.le_refl _, fun _ _ _ => rfl⟩
theorem But.trans {g : Nat} {a b c : World} (h : But g a b) (k : But g b c) : But g a c :=
  ⟨k.1.trans h.1, k.2.1.trans h.2.1, k.2.2.1.trans h.2.2.1, Nat.le_trans h.2.2.2.1 k.2.2.2.1, fun j hj hg => (k.2.2.2.2 j (Nat.lt_of_lt_of_le hj h.2.2.2.1) hg).trans (h.2.2.2.2 j hj hg)⟩
theorem But.of_below {g : Nat} {a b : World} (h : Below a.heap.size a b) : But g a b := ⟨h.os, h.tape, h.output, h.size, fun j hj _ => h.block j hj⟩
theorem But.set (g k : Nat) (v : Value) (w : World) : But g w (w.setCell ⟨g, k, none⟩ v) :=
  ⟨rfl, rfl, rfl, by simp, fun j _ hg => heap_setCell_other _ ⟨g, k, none⟩ j v hg⟩
theorem But.below {g B : Nat} {a b : World} (h : But g a b) (hg : B ≤ g) (hB : B ≤ a.heap.size) : Below B a b :=
  ⟨h.1, h.2.1, h.2.2.1, h.2.2.2.1, fun j hj => h.2.2.2.2 j (by omega) (by omega)⟩
/-- The reader's cells. -/
def rcs (S P R : ByteArray) (want tail : Int) (x : Bool) (n : Nat) (r : Bool) (d : ByteArray) : Array Value := #[.string S, .string P, .string R, .int .i64 want, .int .i64 tail, .bool x, .int .u32 n, .bool r, .string d]
theorem nine_cells {w : World} {g : Nat} {cs : Array Value} {t : TypeId} (h : w.heap[g]? = some (.cells cs t (0, 0))) (k : Nat) (v : Value) (hv : cs[k]? = some v) : w.cell? ⟨g, k, none⟩ = some v := by rw [cell_of_row _ _ _ _ _ _ h]; exact hv
theorem eq_nat (a b : Nat) : ((a : Int) == (b : Int)) = (a == b) := by
  rw [Bool.eq_iff_iff, beq_iff_eq, beq_iff_eq]
  omega
set_option maxRecDepth 100000 in
set_option maxHeartbeats 1000000 in
theorem right_any (g : Nat) (S R : ByteArray) (p : List Bool) (nn : Nat) (t : Int) (x : Bool) (n : Nat) (r : Bool) (d : ByteArray) (w : World)
    (hrow : w.heap[g]? = some (.cells (rcs S ⟨(Bm.row p).toArray⟩ R nn t x n r d) 58 (0, 0))) (hl : p.length = nn + 15) (hs : p.length ≤ 1048576) :
    Calls Tryd.prog 67 #[.pointer (some ⟨g, 0, none⟩)] w fun e w' => e = .returned (.bool (Cm.right p nn)) ∧ Below w.heap.size w w' := by
  have hP : (ByteArray.mk (Bm.row p).toArray).size = nn + 15 := by rw [size_str, Bm.length_row, hl]
  have HR : Hid (Cm.right p nn = ((Bm.num (p.drop nn) : Int) == (Bm.crc (p.take nn) : Int))) := by show _ = _; rw [eq_nat]; rfl
  have hcr := Bm.crc_lt (p.take nn)
  have HN : Hid (∀ w, Calls Tryd.prog 68 #[.string ((ByteArray.mk (Bm.row p).toArray).extract nn (nn + 15))] w fun e w' => e = .returned (.int .u64 (Bm.num (p.drop nn))) ∧ w' = w) := fun w => by
    have h := refNum_any ((ByteArray.mk (Bm.row p).toArray).extract nn (nn + 15)) w (by unfold maxLen; simp; omega)
    rw [Fm.read_extract] at h
    have e : Fm.cut (Bm.read (ByteArray.mk (Bm.row p).toArray).data.toList) nn (nn + 15 - nn) = p.drop nn := by
      show Fm.cut (Bm.read (Bm.row p)) nn (nn + 15 - nn) = _
      rw [Bm.read_row]
      unfold Fm.cut
      rw [List.take_of_length_le (by rw [List.length_drop]; omega)]
    rw [e] at h
    exact h
  have HC : Hid (∀ w, Calls Tryd.prog 22 #[.string ((ByteArray.mk (Bm.row p).toArray).extract 0 nn)] w fun e w' => e = .returned (.int .u16 (Bm.crc (p.take nn))) ∧ w' = w) := fun w => by
    have h := refCrc_any ((ByteArray.mk (Bm.row p).toArray).extract 0 nn) w (by unfold maxLen; simp; omega)
    rw [Fm.read_extract] at h
    have e : Fm.cut (Bm.read (ByteArray.mk (Bm.row p).toArray).data.toList) 0 (nn - 0) = p.take nn := by
      show Fm.cut (Bm.read (Bm.row p)) 0 (nn - 0) = _
      rw [Bm.read_row]
      rfl
    rw [e] at h
    exact h
  have hz : g < w.heap.size := (Array.getElem?_eq_some_iff.1 hrow).1
  have HF : Hid (∀ w', Below w.heap.size w w' → ∀ (k : Nat) (v : Value), (rcs S ⟨(Bm.row p).toArray⟩ R nn t x n r d)[k]? = some v → w'.cell? ⟨g, k, none⟩ = some v) := fun w' hb k v hv => (hb.cell (p := ⟨g, k, none⟩) hz).trans (nine_cells hrow k v hv)
  unfold rcs at HF
  generalize ByteArray.mk (Bm.row p).toArray = P at *
  have hs1 := fun W => run_slice_string_l (P := Tryd.prog) W 9 P Tryd.underlying9 .i64 (nn : Int) (by omega) (by omega)
  have hs2 := fun W => run_slice_string_h (P := Tryd.prog) W 9 P Tryd.underlying9 .i64 (nn : Int) (by omega) (by omega)
  rw [Int.toNat_natCast, hP] at hs1
  rw [Int.toNat_natCast] at hs2
  generalize Cm.right p nn = res at *
  generalize Bm.num (p.drop nn) = A at *
  generalize Bm.crc (p.take nn) = B at *
  clear hrow
  go_enter Tryd.func67, Tryd.ntmps67
  go_wp2_with fail
  refine Lw.wp_region_quiet_below (by kernel_rfl) (by kernel_rfl) ?_
  repeat (first
    | go_big_quiet_skip
    | (go_big_quiet_want; go_big_quiet_op; go_big_quiet_on)
    | (go_big_quiet_want; go_big_quiet_op; apply Exists.intro; refine ⟨fun _ hb' => ?_, ?_⟩; (first
      | exact Lw.val_rfl _
      | (go_at_call 68; exact Lw.calls_same hb' (HN.out _))
      | (go_at_call 22; exact Lw.calls_same hb' (HC.out _))
      | (simp [go_sem, HF.out _ hb' 1 _ rfl]; rfl)
      | (simp [go_sem, HF.out _ hb' 3 _ rfl]; rfl)); go_big_quiet_on))
  refine wpQuiet_nil ?_
  intro w3 hb3
  go_wp2
  go_ret
  exact ⟨ret_bool HR.out.symm, hb3⟩
def behindCode (ok : Bool) (t : Nat) (c : Bool) : Nat := if t + 1 ≠ 2 ∧ c = false then 12 else if t + 1 = 3 ∧ ok = false then 40 else if t + 1 = 10 then 1 else 0
theorem set4 {w : World} {g : Nat} {S P R : ByteArray} {want tail : Int} {x : Bool} {n : Nat} {r : Bool} {d : ByteArray} {T : TypeId} (h : w.heap[g]? = some (.cells (rcs S P R want tail x n r d) T (0, 0))) (v : Int) : (w.setCell ⟨g, 4, none⟩ (.int .i64 v)).heap[g]? = some (.cells (rcs S P R want v x n r d) T (0, 0)) := by
  rw [heap_setCell_same _ _ _ _ _ _ h]; rfl
set_option maxRecDepth 100000 in
set_option maxHeartbeats 2000000 in
theorem behind_any (g : Nat) (S R : ByteArray) (p : List Bool) (nn : Nat) (t : Nat) (ht : t < 10) (c : Bool) (x : Bool) (n : Nat) (r : Bool) (d : ByteArray) (w : World)
    (hrow : w.heap[g]? = some (.cells (rcs S ⟨(Bm.row p).toArray⟩ R nn t x n r d) 58 (0, 0))) (hl : p.length = nn + 15) (hs : p.length ≤ 1048576) :
    Calls Tryd.prog 53 #[.pointer (some ⟨g, 0, none⟩), .bool c] w fun e w' => e = .returned (.int .i64 (behindCode (Cm.right p nn) t c)) ∧ w'.heap[g]? = some (.cells (rcs S ⟨(Bm.row p).toArray⟩ R nn (t + 1) x n r d) 58 (0, 0)) ∧ But g w w' := by
  have HR : Hid (∀ w, w.heap[g]? = some (.cells (rcs S ⟨(Bm.row p).toArray⟩ R nn 3 x n r d) 58 (0, 0)) → Calls Tryd.prog 67 #[.pointer (some ⟨g, 0, none⟩)] w fun e w' => e = .returned (.bool (Cm.right p nn)) ∧ Below w.heap.size w w') := fun w h => right_any g S R p nn 3 x n r d w h hl hs
  have c4 : w.cell? ⟨g, 4, none⟩ = some (.int .i64 (t : Int)) := nine_cells hrow 4 _ rfl
  have z4 : w.frozen? ⟨g, 4, none⟩ = false := frozen_of_row _ _ _ _ _ hrow
  have hz : g < w.heap.size := (Array.getElem?_eq_some_iff.1 hrow).1
  have HV : Hid (_) := set4 hrow ((t : Int) + 1)
  have hB := But.set g 4 (.int .i64 ((t : Int) + 1)) w
  have hB' : Hid (_) := hB
  clear hrow hB
  have h10 : t = 0 ∨ t = 1 ∨ t = 2 ∨ t = 3 ∨ t = 4 ∨ t = 5 ∨ t = 6 ∨ t = 7 ∨ t = 8 ∨ t = 9 := by omega
  by_cases h2 : t = 2
  · subst h2
    clear h10
    cases c
    · go_enter Tryd.func53, Tryd.ntmps53
      go_wp2
      go_ret
      exact ⟨rfl, HV.out, hB'.out⟩
    · generalize Cm.right p nn = ok at *
      go_enter Tryd.func53, Tryd.ntmps53
      go_wp2_with fail
      refine (HR.out _ HV.out).mono ?_
      rintro e w1 ⟨rfl, hb1⟩
      have HV1 : Hid (_) := block_on (by simpa using hz) hb1 HV.out
      have hB1 := But.trans hB'.out (But.of_below hb1)
      have hB1' : Hid (_) := hB1
      have c4' : w1.cell? ⟨g, 4, none⟩ = some (.int .i64 3) := nine_cells HV1.out 4 _ rfl
      clear hb1 hB1 c4 z4
      cases ok
      all_goals
        go_wp2
        go_ret
        exact ⟨rfl, HV1.out, hB1'.out⟩
  · clear HR
    rcases h10 with rfl | rfl | rfl | rfl | rfl | rfl | rfl | rfl | rfl | rfl
    case inr.inr.inl => exact absurd rfl h2
    all_goals
      cases c
      all_goals
        go_enter Tryd.func53, Tryd.ntmps53
        go_wp2
        go_ret
        exact ⟨rfl, HV.out, hB'.out⟩
end Go.Proofs.YtaphdehhnnglgaaDoor
