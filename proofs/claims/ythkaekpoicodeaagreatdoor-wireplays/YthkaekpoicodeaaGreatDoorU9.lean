/- The document's own reader of frames: its cells, what Right and behind answer, over its text. -/
import Derived.Test.YthkaekpoicodeaaGreatDoorU1
import Derived.Test.YthkaekpoicodeaaGreatDoorU5
import Derived.Test.YthkaekpoicodeaaGreatDoorU2
import Derived.Deep.QuietTactic
import Derived.BigQuiet
import Derived.Test.YthkaekpoicodeaaGreatDoorU8
namespace Go.Proofs.YthkaekpoicodeaaGreatDoor
open Go.RowKit
/-- All blocks but one stand. -/
def But (g : Nat) (w w' : World) : Prop := w'.os = w.os ∧ w'.tape = w.tape ∧ w'.output = w.output ∧ w.heap.size ≤ w'.heap.size ∧ ∀ j, j < w.heap.size → j ≠ g → w'.heap[j]? = w.heap[j]?
theorem But.refl (g : Nat) (w : World) : But g w w := ⟨rfl, rfl, rfl, Nat.le_refl _, fun _ _ _ => rfl⟩
theorem But.trans {g : Nat} {a b c : World} (h : But g a b) (k : But g b c) : But g a c :=
  ⟨k.1.trans h.1, k.2.1.trans h.2.1, k.2.2.1.trans h.2.2.1, Nat.le_trans h.2.2.2.1 k.2.2.2.1, fun j hj hg => (k.2.2.2.2 j (Nat.lt_of_lt_of_le hj h.2.2.2.1) hg).trans (h.2.2.2.2 j hj hg)⟩
theorem But.of_below {g : Nat} {a b : World} (h : Below a.heap.size a b) : But g a b := ⟨h.os, h.tape, h.output, h.size, fun j hj _ => h.block j hj⟩
theorem But.set (g k : Nat) (v : Value) (w : World) : But g w (w.setCell ⟨g, k, none⟩ v) :=
  ⟨rfl, rfl, rfl, by simp, fun j _ hg => heap_setCell_other _ ⟨g, k, none⟩ j v hg⟩
theorem But.below {g B : Nat} {a b : World} (h : But g a b) (hg : B ≤ g) (hB : B ≤ a.heap.size) : Below B a b :=
  ⟨h.1, h.2.1, h.2.2.1, h.2.2.2.1, fun j hj => h.2.2.2.2 j (by omega) (by omega)⟩
/-- The reader's cells. -/
def rcs (S P R : ByteArray) (want tail : Int) (x : Bool) (n : Nat) (r : Bool) (d : ByteArray) : Array Value := #[.string S, .string P, .string R, .int .i64 want, .int .i64 tail, .bool x, .int .u32 n, .bool r, .string d]
theorem nine_cells {w : World} {g : Nat} {cs : Array Value} {t : TypeId} (h : w.heap[g]? = some (.cells cs t (0, 0))) (k : Nat) (v : Value) (hv : cs[k]? = some v) : w.cell? ⟨g, k, none⟩ = some v := by rw [cell_of_row _ _ _ _ _ _ h]; exact hv
theorem eq_nat (a b : Nat) : ((a : Int) == (b : Int)) = (a == b) := by
  rw [Bool.eq_iff_iff, beq_iff_eq, beq_iff_eq]
  omega
set_option maxRecDepth 100000 in
set_option maxHeartbeats 1000000 in
theorem right_any (g : Nat) (S R : ByteArray) (p : List Bool) (nn : Nat) (t : Int) (x : Bool) (n : Nat) (r : Bool) (d : ByteArray) (w : World)
    (hrow : w.heap[g]? = some (.cells (rcs S ⟨(Bm.row p).toArray⟩ R nn t x n r d) 89 (0, 0))) (hl : p.length = nn + 15) (hs : p.length ≤ 1048576) :
    Calls Tryz.prog 43 #[.pointer (some ⟨g, 0, none⟩)] w fun e w' => e = .returned (.bool (Cm.right p nn)) ∧ Below w.heap.size w w' := by
  have hP : (ByteArray.mk (Bm.row p).toArray).size = nn + 15 := by rw [size_str, Bm.length_row, hl]
  have HR : Hid (Cm.right p nn = ((Bm.num (p.drop nn) : Int) == (Bm.crc (p.take nn) : Int))) := by show _ = _; rw [eq_nat]; rfl
  have hcr := Bm.crc_lt (p.take nn)
  have HN : Hid (∀ w, Calls Tryz.prog 64 #[.string ((ByteArray.mk (Bm.row p).toArray).extract nn (nn + 15))] w fun e w' => e = .returned (.int .u64 (Bm.num (p.drop nn))) ∧ w' = w) := fun w => by
    have h := refNum_any ((ByteArray.mk (Bm.row p).toArray).extract nn (nn + 15)) w (by unfold maxLen; simp; omega)
    rw [Fm.read_extract] at h
    have e : Fm.cut (Bm.read (ByteArray.mk (Bm.row p).toArray).data.toList) nn (nn + 15 - nn) = p.drop nn := by
      show Fm.cut (Bm.read (Bm.row p)) nn (nn + 15 - nn) = _
      rw [Bm.read_row]
      unfold Fm.cut
      rw [List.take_of_length_le (by rw [List.length_drop]; omega)]
    rw [e] at h
    exact h
  have HC : Hid (∀ w, Calls Tryz.prog 65 #[.string ((ByteArray.mk (Bm.row p).toArray).extract 0 nn)] w fun e w' => e = .returned (.int .u16 (Bm.crc (p.take nn))) ∧ w' = w) := fun w => by
    have h := refCrc_any ((ByteArray.mk (Bm.row p).toArray).extract 0 nn) w (by unfold maxLen; simp; omega)
    rw [Fm.read_extract] at h
    have e : Fm.cut (Bm.read (ByteArray.mk (Bm.row p).toArray).data.toList) 0 (nn - 0) = p.take nn := by
      show Fm.cut (Bm.read (Bm.row p)) 0 (nn - 0) = _
      rw [Bm.read_row]
      rfl
    rw [e] at h
    exact h
  have hz : g < w.heap.size := (Array.getElem?_eq_some_iff.1 hrow).1
  have HF : Hid (∀ w', Below w.heap.size w w' → ∀ (k : Nat) (v : Value), (rcs S ⟨(Bm.row p).toArray⟩ R nn t x n r d)[k]? = some v → w'.cell? ⟨g, k, none⟩ = some v) := fun w' hb k v hv => (hb.cell (p := ⟨g, k, none⟩) hz).trans (nine_cells hrow k v hv)
  unfold rcs at HF
  generalize ByteArray.mk (Bm.row p).toArray = P at *
  have hs1 := fun W => run_slice_string_l (P := Tryz.prog) W 9 P Tryz.underlying9 .i64 (nn : Int) (by omega) (by omega)
  have hs2 := fun W => run_slice_string_h (P := Tryz.prog) W 9 P Tryz.underlying9 .i64 (nn : Int) (by omega) (by omega)
  rw [Int.toNat_natCast, hP] at hs1
  rw [Int.toNat_natCast] at hs2
  generalize Cm.right p nn = res at *
  generalize Bm.num (p.drop nn) = A at *
  generalize Bm.crc (p.take nn) = B at *
  clear hrow
  go_enter Tryz.func43, Tryz.ntmps43
  go_wp2_with fail
  refine Lw.wp_region_quiet_below (by kernel_rfl) (by kernel_rfl) ?_
  repeat (first
    | go_big_quiet_skip
    | (go_big_quiet_want; go_big_quiet_op; go_big_quiet_on)
    | (go_big_quiet_want; go_big_quiet_op; apply Exists.intro; refine ⟨fun _ hb' => ?_, ?_⟩; (first
      | exact Lw.val_rfl _
      | (go_at_call 64; exact Lw.calls_same hb' (HN.out _))
      | (go_at_call 65; exact Lw.calls_same hb' (HC.out _))
      | (simp [go_sem, HF.out _ hb' 1 _ rfl]; rfl)
      | (simp [go_sem, HF.out _ hb' 3 _ rfl]; rfl)); go_big_quiet_on))
  refine wpQuiet_nil ?_
  intro w3 hb3
  go_wp2
  go_ret
  exact ⟨ret_bool HR.out.symm, hb3⟩
def behindCode (ok : Bool) (t : Nat) (c : Bool) : Nat := if t + 1 ≠ 2 ∧ c = false then 12 else if t + 1 = 3 ∧ ok = false then 40 else if t + 1 = 10 then 1 else 0
theorem set4 {w : World} {g : Nat} {S P R : ByteArray} {want tail : Int} {x : Bool} {n : Nat} {r : Bool} {d : ByteArray} {T : TypeId} (h : w.heap[g]? = some (.cells (rcs S P R want tail x n r d) T (0, 0))) (v : Int) : (w.setCell ⟨g, 4, none⟩ (.int .i64 v)).heap[g]? = some (.cells (rcs S P R want v x n r d) T (0, 0)) := by
  rw [heap_setCell_same _ _ _ _ _ _ h]; rfl
set_option maxRecDepth 100000 in
set_option maxHeartbeats 2000000 in
theorem behind_any (g : Nat) (S R : ByteArray) (p : List Bool) (nn : Nat) (t : Nat) (ht : t < 10) (c : Bool) (x : Bool) (n : Nat) (r : Bool) (d : ByteArray) (w : World)
    (hrow : w.heap[g]? = some (.cells (rcs S ⟨(Bm.row p).toArray⟩ R nn t x n r d) 89 (0, 0))) (hl : p.length = nn + 15) (hs : p.length ≤ 1048576) :
    Calls Tryz.prog 94 #[.pointer (some ⟨g, 0, none⟩), .bool c] w fun e w' => e = .returned (.int .i64 (behindCode (Cm.right p nn) t c)) ∧ w'.heap[g]? = some (.cells (rcs S ⟨(Bm.row p).toArray⟩ R nn (t + 1) x n r d) 89 (0, 0)) ∧ But g w w' := by
  have HR : Hid (∀ w, w.heap[g]? = some (.cells (rcs S ⟨(Bm.row p).toArray⟩ R nn 3 x n r d) 89 (0, 0)) → Calls Tryz.prog 43 #[.pointer (some ⟨g, 0, none⟩)] w fun e w' => e = .returned (.bool (Cm.right p nn)) ∧ Below w.heap.size w w') := fun w h => right_any g S R p nn 3 x n r d w h hl hs
  have c4 : w.cell? ⟨g, 4, none⟩ = some (.int .i64 (t : Int)) := nine_cells hrow 4 _ rfl
  have z4 : w.frozen? ⟨g, 4, none⟩ = false := frozen_of_row _ _ _ _ _ hrow
  have hz : g < w.heap.size := (Array.getElem?_eq_some_iff.1 hrow).1
  have HV : Hid (_) := set4 hrow ((t : Int) + 1)
  have hB := But.set g 4 (.int .i64 ((t : Int) + 1)) w
  have hB' : Hid (_) := hB
  clear hrow hB
  have h10 : t = 0 ∨ t = 1 ∨ t = 2 ∨ t = 3 ∨ t = 4 ∨ t = 5 ∨ t = 6 ∨ t = 7 ∨ t = 8 ∨ t = 9 := by omega
  by_cases h2 : t = 2
  · subst h2
    clear h10
    cases c
    · go_enter Tryz.func94, Tryz.ntmps94
      go_wp2
      go_ret
      exact ⟨rfl, HV.out, hB'.out⟩
    · generalize Cm.right p nn = ok at *
      go_enter Tryz.func94, Tryz.ntmps94
      go_wp2_with fail
      refine (HR.out _ HV.out).mono ?_
      rintro e w1 ⟨rfl, hb1⟩
      have HV1 : Hid (_) := block_on (by simpa using hz) hb1 HV.out
      have hB1 := But.trans hB'.out (But.of_below hb1)
      have hB1' : Hid (_) := hB1
      have c4' : w1.cell? ⟨g, 4, none⟩ = some (.int .i64 3) := nine_cells HV1.out 4 _ rfl
      clear hb1 hB1 c4 z4
      cases ok
      all_goals
        go_wp2
        go_ret
        exact ⟨rfl, HV1.out, hB1'.out⟩
  · clear HR
    rcases h10 with rfl | rfl | rfl | rfl | rfl | rfl | rfl | rfl | rfl | rfl
    case inr.inr.inl => exact absurd rfl h2
    all_goals
      cases c
      all_goals
        go_enter Tryz.func94, Tryz.ntmps94
        go_wp2
        go_ret
        exact ⟨rfl, HV.out, hB'.out⟩
end Go.Proofs.YthkaekpoicodeaaGreatDoor
/- The document's own reader of frames: what Next answers, over its text. -/
namespace Go.Proofs.YthkaekpoicodeaaGreatDoor
open Go.RowKit
def wantI : Option (Cm.Fr × Nat) → Int
  | some (_, n) => n
  | none => -1
def tailI : Option Nat → Int
  | some t => t
  | none => -1
def frI : Option (Cm.Fr × Nat) → Cm.Fr
  | some (f, _) => f
  | none => Cm.noF
/-- The cells of a reader that holds s; 'S': all bits, 'R': those up to the sum. -/
def rdc (S : ByteArray) (s : Cm.Rd) (R : List Bool) : Array Value := rcs S ⟨(Bm.row s.p).toArray⟩ ⟨(Bm.row R).toArray⟩ (wantI s.w) (tailI s.t) (frI s.w).1 (frI s.w).2.1 (frI s.w).2.2.1 ⟨(frI s.w).2.2.2.toArray⟩
theorem drew_row {w w1 : World} {g : Nat} {O : Obj} (h : w1 = w.drew) (k : w.heap[g]? = some O) : w1.heap[g]? = some O := by subst h; exact k
theorem drew_but {g : Nat} {w w1 : World} (h : w1 = w.drew) : But g w w1 := by subst h; exact ⟨rfl, rfl, rfl, Nat.le_refl _, fun _ _ _ => rfl⟩
theorem run_cat (a b : ByteArray) (h : a.size + b.size ≤ 1000000000) (W : World) : (Op.stringOp .add a b).run Tryz.prog W = .ok (.string (a ++ b)) W := by
  simp [go_sem]
  omega
theorem set0 {w : World} {g : Nat} {S P R : ByteArray} {want tail : Int} {x : Bool} {n : Nat} {r : Bool} {d : ByteArray} {T : TypeId} (h : w.heap[g]? = some (.cells (rcs S P R want tail x n r d) T (0, 0))) (v : ByteArray) : (w.setCell ⟨g, 0, none⟩ (.string v)).heap[g]? = some (.cells (rcs v P R want tail x n r d) T (0, 0)) := by
  rw [heap_setCell_same _ _ _ _ _ _ h]; rfl
theorem set1r {w : World} {g : Nat} {S P R : ByteArray} {want tail : Int} {x : Bool} {n : Nat} {r : Bool} {d : ByteArray} {T : TypeId} (h : w.heap[g]? = some (.cells (rcs S P R want tail x n r d) T (0, 0))) (v : ByteArray) : (w.setCell ⟨g, 1, none⟩ (.string v)).heap[g]? = some (.cells (rcs S v R want tail x n r d) T (0, 0)) := by
  rw [heap_setCell_same _ _ _ _ _ _ h]; rfl
theorem set2r {w : World} {g : Nat} {S P R : ByteArray} {want tail : Int} {x : Bool} {n : Nat} {r : Bool} {d : ByteArray} {T : TypeId} (h : w.heap[g]? = some (.cells (rcs S P R want tail x n r d) T (0, 0))) (v : ByteArray) : (w.setCell ⟨g, 2, none⟩ (.string v)).heap[g]? = some (.cells (rcs S P v want tail x n r d) T (0, 0)) := by
  rw [heap_setCell_same _ _ _ _ _ _ h]; rfl
set_option maxRecDepth 100000 in
set_option maxHeartbeats 2000000 in
theorem next_behind (g : Nat) (S : ByteArray) (hS : S.size ≤ 1000000) (q : Nat × Bool) (p : List Bool) (f : Cm.Fr) (nn t : Nat) (R : List Bool) (c : UInt8) (w : World) (ht : t < 10) (hl : p.length = nn + 15) (hs : p.length ≤ 1048576)
    (hrow : w.heap[g]? = some (.cells (rdc S ⟨q, p, some (f, nn), some t⟩ R) 89 (0, 0))) :
    Calls Tryz.prog 67 #[.pointer (some ⟨g, 0, none⟩), .int .u8 (c.toNat : Int)] w fun e w' => e = .returned (.int .i64 (behindCode (Cm.right p nn) t (Bm.isOne c))) ∧
      w'.heap[g]? = some (.cells (rdc (S ++ ByteArray.mk #[Bm.sign (Bm.isOne c)]) ⟨q, p, some (f, nn), some (t + 1)⟩ R) 89 (0, 0)) ∧ But g w w' := by
  have hc := Bm.isOne_dec c
  obtain ⟨x, n, r, d⟩ := f
  have hrow' : Hid (w.heap[g]? = some (.cells #[.string S, .string ⟨(Bm.row p).toArray⟩, .string ⟨(Bm.row R).toArray⟩, .int .i64 nn, .int .i64 t, .bool x, .int .u32 n, .bool r, .string ⟨d.toArray⟩] 89 (0, 0))) := hrow
  have HB : Hid (∀ w, w.heap[g]? = some (.cells (rcs (S ++ ByteArray.mk #[Bm.sign (Bm.isOne c)]) ⟨(Bm.row p).toArray⟩ ⟨(Bm.row R).toArray⟩ nn t x n r ⟨d.toArray⟩) 89 (0, 0)) → Calls Tryz.prog 94 #[.pointer (some ⟨g, 0, none⟩), .bool (Bm.isOne c)] w fun e w' => e = .returned (.int .i64 (behindCode (Cm.right p nn) t (Bm.isOne c))) ∧ w'.heap[g]? = some (.cells (rcs (S ++ ByteArray.mk #[Bm.sign (Bm.isOne c)]) ⟨(Bm.row p).toArray⟩ ⟨(Bm.row R).toArray⟩ nn (t + 1) x n r ⟨d.toArray⟩) 89 (0, 0)) ∧ But g w w') := fun w h => behind_any g _ _ p nn t ht _ x n r _ w h hl hs
  clear hrow
  go_enter Tryz.func67, Tryz.ntmps67
  go_wp2_with fail
  refine Lw.region_tail 11 (by kernel_rfl) (by kernel_rfl) ?_
  intro w1 hw1
  have HV1 : Hid (_) := drew_row hw1 hrow'.out
  have hB1 : Hid (But g w w1) := drew_but hw1
  clear hw1 hrow'
  have c0 : w1.cell? ⟨g, 0, none⟩ = some (.string S) := nine_cells HV1.out 0 _ rfl
  have c4 : w1.cell? ⟨g, 4, none⟩ = some (.int .i64 t) := nine_cells HV1.out 4 _ rfl
  have z0 : w1.frozen? ⟨g, 0, none⟩ = false := frozen_of_row _ _ _ _ _ HV1.out
  simp only [List.take_succ_cons, List.take_zero, List.drop_succ_cons, List.drop_zero]
  have hcat := fun W => run_cat S (ByteArray.mk #[Bm.sign ((c.toNat : Int) == 49)]) (by show S.size + 1 ≤ _; omega) W
  rw [hc] at hcat
  repeat (first | still_step | still_call (refBit_any _ _))
  refine wpStill_nil ?_
  have HV2 : Hid (_) := set0 HV1.out (S ++ ByteArray.mk #[Bm.sign (Bm.isOne c)])
  have hB2 : Hid (_) := But.trans hB1.out (But.set g 0 (.string (S ++ ByteArray.mk #[Bm.sign (Bm.isOne c)])) w1)
  clear hcat HV1 hB1
  go_wp2_with fail
  refine (HB.out _ HV2.out).mono ?_
  rintro e w3 ⟨rfl, HV3, hB3⟩
  have HV3' : Hid (_) := HV3
  have hB4 : Hid (_) := But.trans hB2.out hB3
  clear HV3 hB3 hB2 HV2
  go_wp2
  go_ret
  exact ⟨rfl, HV3'.out, hB4.out⟩
end Go.Proofs.YthkaekpoicodeaaGreatDoor
/- The document's own reader of frames: what Next answers up to the sum, over its text. -/
namespace Go.Proofs.YthkaekpoicodeaaGreatDoor
open Go.RowKit
theorem row_snoc (p : List Bool) (b : Bool) : ByteArray.mk (Bm.row p).toArray ++ ByteArray.mk #[Bm.sign b] = ByteArray.mk (Bm.row (p ++ [b])).toArray := by
  rw [show ByteArray.mk #[Bm.sign b] = ByteArray.mk (Bm.row [b]).toArray from rfl, Bm.str_app]
  simp [Bm.row]
theorem size_rowr (p : List Bool) : (ByteArray.mk (Bm.row p).toArray).size = p.length := by rw [size_str, Bm.length_row]
theorem read_rowr (p : List Bool) : Bm.read (ByteArray.mk (Bm.row p).toArray).data.toList = p := by
  show Bm.read (Bm.row p) = p
  exact Bm.read_row p
theorem next_at (R : List Bool) (hc : Sm.calm (0, false) R) : (Sm.run (0, false) R).1 = 5 ∧ 0 ≤ Sm.next R ∨ (Sm.run (0, false) R).1 ≠ 5 ∧ Sm.next R < 0 := by
  have h0 : (Sm.unstuff R).2 = -1 := Sm.un_calm R (0, false) [] 0 hc
  unfold Sm.next
  rw [h0, if_neg (by decide)]
  by_cases h : (Sm.run (0, false) R).1 = 5
  · rw [if_pos h]; left; refine ⟨h, ?_⟩; split <;> decide
  · rw [if_neg h]; right; exact ⟨h, by decide⟩
theorem un_at (R : List Bool) (hc : Sm.calm (0, false) R) (b : Bool) : (Sm.step (Sm.run (0, false) R) b).1 = 6 ∧ (Sm.unstuff (R ++ [b])).2 = (R.length : Int) ∨ (Sm.step (Sm.run (0, false) R) b).1 ≠ 6 ∧ (Sm.unstuff (R ++ [b])).2 = -1 := by
  have h := Sm.un_append R [b] (0, false) [] 0 hc
  unfold Sm.unstuff
  rw [h]
  by_cases h6 : (Sm.step (Sm.run (0, false) R) b).1 = 6
  · left; refine ⟨h6, ?_⟩; unfold Sm.unB; rw [if_pos h6, Nat.zero_add]
  · right; refine ⟨h6, ?_⟩; unfold Sm.unB; rw [if_neg h6]; rfl
theorem calm_snoc (R : List Bool) (hc : Sm.calm (0, false) R) (b : Bool) (h : (Sm.step (Sm.run (0, false) R) b).1 ≠ 6) : Sm.calm (0, false) (R ++ [b]) := by
  intro k
  have h5 := Sm.calm_run hc
  have hle := Sm.step_le (Sm.run (0, false) R) b
  by_cases hk : k ≤ R.length
  · rw [List.take_append_of_le_length hk]; exact hc k
  · rw [List.take_of_length_le (by rw [List.length_append]; simp only [List.length_cons, List.length_nil]; omega), Sm.run_append]
    show (Sm.step (Sm.run (0, false) R) b).1 ≤ 5
    omega
theorem run_snoc (R : List Bool) (b : Bool) : Sm.run (0, false) (R ++ [b]) = Sm.step (Sm.run (0, false) R) b := by rw [Sm.run_append]; rfl
theorem rnext_row (R : List Bool) (h : R.length ≤ 1048576) (w : World) : Calls Tryz.prog 95 #[.string ⟨(Bm.row R).toArray⟩] w fun e w' => e = .returned (.int .i64 (Sm.next R)) ∧ Below w.heap.size w w' := by
  have := rnext_any ⟨(Bm.row R).toArray⟩ w (by rw [size_rowr]; exact h)
  rw [read_rowr] at this
  exact this
theorem run_row (R : List Bool) (h : R.length ≤ 1048576) (w : World) : Calls Tryz.prog 96 #[.string ⟨(Bm.row R).toArray⟩] w fun e w' => e = .returned (.tuple #[.string ⟨(Bm.row (Sm.unstuff R).1).toArray⟩, .int .i64 (Sm.unstuff R).2]) ∧ Below w.heap.size w w' := by
  have := runstuff_any ⟨(Bm.row R).toArray⟩ w (by rw [size_rowr]; exact h)
  rw [read_rowr] at this
  exact this
theorem rparse_row (p : List Bool) (h : p.length ≤ 1048576) (w : World) : Calls Tryz.prog 97 #[.string ⟨(Bm.row p).toArray⟩] w fun e w' => e = .returned (fv (Fm.parse p)) ∧ Below w.heap.size w w' := by
  have := refFParse_any ⟨(Bm.row p).toArray⟩ w (by rw [size_rowr]; exact h)
  rw [read_rowr] at this
  exact this
set_option maxRecDepth 100000 in
set_option maxHeartbeats 4000000 in
theorem next_six_none (g : Nat) (S : ByteArray) (hS : S.size ≤ 1000000) (p : List Bool) (R : List Bool) (c : UInt8) (w : World) (hR : R.length ≤ 1000000)  (hc : Sm.calm (0, false) R) (h6 : (Sm.step (Sm.run (0, false) R) (Bm.isOne c)).1 = 6)
    (hrow : w.heap[g]? = some (.cells (rcs S ⟨(Bm.row p).toArray⟩ ⟨(Bm.row R).toArray⟩ (-1) (-1) false 0 false ⟨#[]⟩) 89 (0, 0))) :
    Calls Tryz.prog 67 #[.pointer (some ⟨g, 0, none⟩), .int .u8 (c.toNat : Int)] w fun e w' => e = .returned (.int .i64 20) ∧ But g w w' := by
  have hb0 := Bm.isOne_dec c
  generalize Bm.isOne c = b at *
  have HN1 : Hid (∀ w, Calls Tryz.prog 95 #[.string ⟨(Bm.row R).toArray⟩] w fun e w' => e = .returned (.int .i64 (Sm.next R)) ∧ Below w.heap.size w w') := fun w => rnext_row R (by omega) w
  have HU : Hid (∀ w, Calls Tryz.prog 96 #[.string ⟨(Bm.row (R ++ [b])).toArray⟩] w fun e w' => e = .returned (.tuple #[.string ⟨(Bm.row (Sm.unstuff (R ++ [b])).1).toArray⟩, .int .i64 (Sm.unstuff (R ++ [b])).2]) ∧ Below w.heap.size w w') := fun w => run_row (R ++ [b]) (by rw [List.length_append]; simp only [List.length_cons, List.length_nil]; omega) w
  have HN2 : Hid (∀ w, Calls Tryz.prog 95 #[.string ⟨(Bm.row (R ++ [b])).toArray⟩] w fun e w' => e = .returned (.int .i64 (Sm.next (R ++ [b]))) ∧ Below w.heap.size w w') := fun w => rnext_row (R ++ [b]) (by rw [List.length_append]; simp only [List.length_cons, List.length_nil]; omega) w
  have HRs : Hid (_) := row_snoc R b
  have HPs : Hid (_) := row_snoc p b
  have sR := size_rowr R
  have sP := size_rowr p
  have sP2 : (ByteArray.mk (Bm.row (p ++ [b])).toArray).size = p.length + 1 := by rw [size_rowr, List.length_append]; rfl
  have hun : 0 ≤ (Sm.unstuff (R ++ [b])).2 := by
    rcases un_at R hc b with ⟨_, h⟩ | ⟨h, _⟩
    · rw [h]; omega
    · exact absurd h6 h
  clear h6 hc
  generalize ByteArray.mk (Bm.row (Sm.unstuff (R ++ [b])).1).toArray = UU at *
  generalize ByteArray.mk (Bm.row (R ++ [b])).toArray = RR at *
  generalize ByteArray.mk (Bm.row (p ++ [b])).toArray = PP at *
  generalize ByteArray.mk (Bm.row R).toArray = Rb at *
  generalize ByteArray.mk (Bm.row p).toArray = Pb at *
  generalize Sm.next R = nx at *
  generalize Sm.next (R ++ [b]) = nx2 at *
  generalize (Sm.unstuff (R ++ [b])).2 = un at *
  have hz : g < w.heap.size := (Array.getElem?_eq_some_iff.1 hrow).1
  have HV : Hid (_) := hrow
  have hB : Hid (But g w w) := But.refl g w
  clear hrow
  go_enter Tryz.func67, Tryz.ntmps67
  go_wp2_with fail
  refine Lw.region_tail 11 (by kernel_rfl) (by kernel_rfl) ?_
  intro v1 hv1
  replace HV : Hid (_) := drew_row hv1 HV.out
  replace hB : Hid (But g w _) := But.trans hB.out (drew_but hv1)
  clear hv1
  have c0 : v1.cell? ⟨g, 0, none⟩ = some (.string S) := nine_cells HV.out 0 _ rfl
  have c4 : v1.cell? ⟨g, 4, none⟩ = some (.int .i64 (-1)) := nine_cells HV.out 4 _ rfl
  have c2 : v1.cell? ⟨g, 2, none⟩ = some (.string Rb) := nine_cells HV.out 2 _ rfl
  have z0 : v1.frozen? ⟨g, 0, none⟩ = false := frozen_of_row _ _ _ _ _ HV.out
  simp only [List.take_succ_cons, List.take_zero, List.drop_succ_cons, List.drop_zero]
  have hcat := fun W => run_cat S (ByteArray.mk #[Bm.sign ((c.toNat : Int) == 49)]) (by show _ + 1 ≤ _; omega) W
  rw [hb0] at hcat
  repeat (first | still_step | still_call (refBit_any _ _))
  refine wpStill_nil ?_
  clear hcat
  replace HV : Hid (_) := set0 HV.out (S ++ ByteArray.mk #[Bm.sign b])
  replace hB : Hid (But g w _) := But.trans hB.out (But.set g 0 (.string (S ++ ByteArray.mk #[Bm.sign b])) v1)
  go_wp2_with fail
  refine (HN1.out _).mono ?_
  rintro e v2 ⟨rfl, hb2⟩
  replace HV : Hid (_) := block_on (Array.getElem?_eq_some_iff.1 HV.out).1 hb2 HV.out
  replace hB : Hid (But g w _) := But.trans hB.out (But.of_below hb2)
  clear hb2 c0 c2 c4 z0 HN1
  go_wp2_with fail
  refine Lw.region_tail 11 (by kernel_rfl) (by kernel_rfl) ?_
  intro v3 hv3
  replace HV : Hid (_) := drew_row hv3 HV.out
  replace hB : Hid (But g w _) := But.trans hB.out (drew_but hv3)
  clear hv3
  have c2 : v3.cell? ⟨g, 2, none⟩ = some (.string Rb) := nine_cells HV.out 2 _ rfl
  have z2 : v3.frozen? ⟨g, 2, none⟩ = false := frozen_of_row _ _ _ _ _ HV.out
  simp only [List.take_succ_cons, List.take_zero, List.drop_succ_cons, List.drop_zero]
  have hcat := fun W => run_cat Rb (ByteArray.mk #[Bm.sign ((c.toNat : Int) == 49)]) (by show _ + 1 ≤ _; omega) W
  rw [hb0] at hcat
  repeat (first | still_step | still_call (refBit_any _ _))
  refine wpStill_nil ?_
  clear hcat
  replace HV : Hid (_) := set2r HV.out (Rb ++ ByteArray.mk #[Bm.sign b])
  replace hB : Hid (But g w _) := But.trans hB.out (But.set g 2 (.string (Rb ++ ByteArray.mk #[Bm.sign b])) v3)
  rw [HRs.out] at HV hB ⊢
  go_wp2_with fail
  refine (HU.out _).mono ?_
  rintro e v4 ⟨rfl, hb4⟩
  replace HV : Hid (_) := block_on (Array.getElem?_eq_some_iff.1 HV.out).1 hb4 HV.out
  replace hB : Hid (But g w _) := But.trans hB.out (But.of_below hb4)
  clear hb4 c2 z2 HU
  go_wp2
  all_goals
    go_ret
    exact ⟨rfl, hB.out⟩
set_option maxRecDepth 100000 in
set_option maxHeartbeats 4000000 in
theorem next_six_some (g : Nat) (S : ByteArray) (hS : S.size ≤ 1000000) (p : List Bool) (R : List Bool) (c : UInt8) (w : World) (hR : R.length ≤ 1000000) (nn : Nat) (x : Bool) (n : Nat) (r : Bool) (d : ByteArray) (hc : Sm.calm (0, false) R) (h6 : (Sm.step (Sm.run (0, false) R) (Bm.isOne c)).1 = 6)
    (hrow : w.heap[g]? = some (.cells (rcs S ⟨(Bm.row p).toArray⟩ ⟨(Bm.row R).toArray⟩ (nn : Int) (-1) x n r d) 89 (0, 0))) :
    Calls Tryz.prog 67 #[.pointer (some ⟨g, 0, none⟩), .int .u8 (c.toNat : Int)] w fun e w' => e = .returned (.int .i64 20) ∧ But g w w' := by
  have hb0 := Bm.isOne_dec c
  generalize Bm.isOne c = b at *
  have HN1 : Hid (∀ w, Calls Tryz.prog 95 #[.string ⟨(Bm.row R).toArray⟩] w fun e w' => e = .returned (.int .i64 (Sm.next R)) ∧ Below w.heap.size w w') := fun w => rnext_row R (by omega) w
  have HU : Hid (∀ w, Calls Tryz.prog 96 #[.string ⟨(Bm.row (R ++ [b])).toArray⟩] w fun e w' => e = .returned (.tuple #[.string ⟨(Bm.row (Sm.unstuff (R ++ [b])).1).toArray⟩, .int .i64 (Sm.unstuff (R ++ [b])).2]) ∧ Below w.heap.size w w') := fun w => run_row (R ++ [b]) (by rw [List.length_append]; simp only [List.length_cons, List.length_nil]; omega) w
  have HN2 : Hid (∀ w, Calls Tryz.prog 95 #[.string ⟨(Bm.row (R ++ [b])).toArray⟩] w fun e w' => e = .returned (.int .i64 (Sm.next (R ++ [b]))) ∧ Below w.heap.size w w') := fun w => rnext_row (R ++ [b]) (by rw [List.length_append]; simp only [List.length_cons, List.length_nil]; omega) w
  have HRs : Hid (_) := row_snoc R b
  have HPs : Hid (_) := row_snoc p b
  have sR := size_rowr R
  have sP := size_rowr p
  have sP2 : (ByteArray.mk (Bm.row (p ++ [b])).toArray).size = p.length + 1 := by rw [size_rowr, List.length_append]; rfl
  have hun : 0 ≤ (Sm.unstuff (R ++ [b])).2 := by
    rcases un_at R hc b with ⟨_, h⟩ | ⟨h, _⟩
    · rw [h]; omega
    · exact absurd h6 h
  clear h6 hc
  generalize ByteArray.mk (Bm.row (Sm.unstuff (R ++ [b])).1).toArray = UU at *
  generalize ByteArray.mk (Bm.row (R ++ [b])).toArray = RR at *
  generalize ByteArray.mk (Bm.row (p ++ [b])).toArray = PP at *
  generalize ByteArray.mk (Bm.row R).toArray = Rb at *
  generalize ByteArray.mk (Bm.row p).toArray = Pb at *
  generalize Sm.next R = nx at *
  generalize Sm.next (R ++ [b]) = nx2 at *
  generalize (Sm.unstuff (R ++ [b])).2 = un at *
  have hz : g < w.heap.size := (Array.getElem?_eq_some_iff.1 hrow).1
  have HV : Hid (_) := hrow
  have hB : Hid (But g w w) := But.refl g w
  clear hrow
  go_enter Tryz.func67, Tryz.ntmps67
  go_wp2_with fail
  refine Lw.region_tail 11 (by kernel_rfl) (by kernel_rfl) ?_
  intro v1 hv1
  replace HV : Hid (_) := drew_row hv1 HV.out
  replace hB : Hid (But g w _) := But.trans hB.out (drew_but hv1)
  clear hv1
  have c0 : v1.cell? ⟨g, 0, none⟩ = some (.string S) := nine_cells HV.out 0 _ rfl
  have c4 : v1.cell? ⟨g, 4, none⟩ = some (.int .i64 (-1)) := nine_cells HV.out 4 _ rfl
  have c2 : v1.cell? ⟨g, 2, none⟩ = some (.string Rb) := nine_cells HV.out 2 _ rfl
  have z0 : v1.frozen? ⟨g, 0, none⟩ = false := frozen_of_row _ _ _ _ _ HV.out
  simp only [List.take_succ_cons, List.take_zero, List.drop_succ_cons, List.drop_zero]
  have hcat := fun W => run_cat S (ByteArray.mk #[Bm.sign ((c.toNat : Int) == 49)]) (by show _ + 1 ≤ _; omega) W
  rw [hb0] at hcat
  repeat (first | still_step | still_call (refBit_any _ _))
  refine wpStill_nil ?_
  clear hcat
  replace HV : Hid (_) := set0 HV.out (S ++ ByteArray.mk #[Bm.sign b])
  replace hB : Hid (But g w _) := But.trans hB.out (But.set g 0 (.string (S ++ ByteArray.mk #[Bm.sign b])) v1)
  go_wp2_with fail
  refine (HN1.out _).mono ?_
  rintro e v2 ⟨rfl, hb2⟩
  replace HV : Hid (_) := block_on (Array.getElem?_eq_some_iff.1 HV.out).1 hb2 HV.out
  replace hB : Hid (But g w _) := But.trans hB.out (But.of_below hb2)
  clear hb2 c0 c2 c4 z0 HN1
  go_wp2_with fail
  refine Lw.region_tail 11 (by kernel_rfl) (by kernel_rfl) ?_
  intro v3 hv3
  replace HV : Hid (_) := drew_row hv3 HV.out
  replace hB : Hid (But g w _) := But.trans hB.out (drew_but hv3)
  clear hv3
  have c2 : v3.cell? ⟨g, 2, none⟩ = some (.string Rb) := nine_cells HV.out 2 _ rfl
  have z2 : v3.frozen? ⟨g, 2, none⟩ = false := frozen_of_row _ _ _ _ _ HV.out
  simp only [List.take_succ_cons, List.take_zero, List.drop_succ_cons, List.drop_zero]
  have hcat := fun W => run_cat Rb (ByteArray.mk #[Bm.sign ((c.toNat : Int) == 49)]) (by show _ + 1 ≤ _; omega) W
  rw [hb0] at hcat
  repeat (first | still_step | still_call (refBit_any _ _))
  refine wpStill_nil ?_
  clear hcat
  replace HV : Hid (_) := set2r HV.out (Rb ++ ByteArray.mk #[Bm.sign b])
  replace hB : Hid (But g w _) := But.trans hB.out (But.set g 2 (.string (Rb ++ ByteArray.mk #[Bm.sign b])) v3)
  rw [HRs.out] at HV hB ⊢
  go_wp2_with fail
  refine (HU.out _).mono ?_
  rintro e v4 ⟨rfl, hb4⟩
  replace HV : Hid (_) := block_on (Array.getElem?_eq_some_iff.1 HV.out).1 hb4 HV.out
  replace hB : Hid (But g w _) := But.trans hB.out (But.of_below hb4)
  clear hb4 c2 z2 HU
  go_wp2
  all_goals
    go_ret
    exact ⟨rfl, hB.out⟩
end Go.Proofs.YthkaekpoicodeaaGreatDoor
/- The document's own reader of frames: what Next answers at a laid bit, over its text. -/
namespace Go.Proofs.YthkaekpoicodeaaGreatDoor
open Go.RowKit
set_option maxRecDepth 100000 in
set_option maxHeartbeats 4000000 in
theorem next_laid_none (g : Nat) (S : ByteArray) (hS : S.size ≤ 1000000) (p : List Bool) (R : List Bool) (c : UInt8) (w : World) (hR : R.length ≤ 1000000)  (hc : Sm.calm (0, false) R) (h5 : (Sm.run (0, false) R).1 = 5) (h6 : (Sm.step (Sm.run (0, false) R) (Bm.isOne c)).1 ≠ 6)
    (hrow : w.heap[g]? = some (.cells (rcs S ⟨(Bm.row p).toArray⟩ ⟨(Bm.row R).toArray⟩ (-1) (-1) false 0 false ⟨#[]⟩) 89 (0, 0))) :
    Calls Tryz.prog 67 #[.pointer (some ⟨g, 0, none⟩), .int .u8 (c.toNat : Int)] w fun e w' => e = .returned (.int .i64 0) ∧ w'.heap[g]? = some (.cells (rcs (S ++ ByteArray.mk #[Bm.sign (Bm.isOne c)]) ⟨(Bm.row p).toArray⟩ ⟨(Bm.row (R ++ [Bm.isOne c])).toArray⟩ (-1) (-1) false 0 false ⟨#[]⟩) 89 (0, 0)) ∧ But g w w' := by
  have hb0 := Bm.isOne_dec c
  generalize Bm.isOne c = b at *
  have HN1 : Hid (∀ w, Calls Tryz.prog 95 #[.string ⟨(Bm.row R).toArray⟩] w fun e w' => e = .returned (.int .i64 (Sm.next R)) ∧ Below w.heap.size w w') := fun w => rnext_row R (by omega) w
  have HU : Hid (∀ w, Calls Tryz.prog 96 #[.string ⟨(Bm.row (R ++ [b])).toArray⟩] w fun e w' => e = .returned (.tuple #[.string ⟨(Bm.row (Sm.unstuff (R ++ [b])).1).toArray⟩, .int .i64 (Sm.unstuff (R ++ [b])).2]) ∧ Below w.heap.size w w') := fun w => run_row (R ++ [b]) (by rw [List.length_append]; simp only [List.length_cons, List.length_nil]; omega) w
  have HN2 : Hid (∀ w, Calls Tryz.prog 95 #[.string ⟨(Bm.row (R ++ [b])).toArray⟩] w fun e w' => e = .returned (.int .i64 (Sm.next (R ++ [b]))) ∧ Below w.heap.size w w') := fun w => rnext_row (R ++ [b]) (by rw [List.length_append]; simp only [List.length_cons, List.length_nil]; omega) w
  have HRs : Hid (_) := row_snoc R b
  have HPs : Hid (_) := row_snoc p b
  have sR := size_rowr R
  have sP := size_rowr p
  have sP2 : (ByteArray.mk (Bm.row (p ++ [b])).toArray).size = p.length + 1 := by rw [size_rowr, List.length_append]; rfl
  have hun : (Sm.unstuff (R ++ [b])).2 = -1 := by
    rcases un_at R hc b with ⟨h, _⟩ | ⟨_, h⟩
    · exact absurd h h6
    · exact h
  have hnx : 0 ≤ Sm.next R := by
    rcases next_at R hc with ⟨_, h⟩ | ⟨h, _⟩
    · exact h
    · exact absurd h5 h
  clear h5 h6 hc
  generalize ByteArray.mk (Bm.row (Sm.unstuff (R ++ [b])).1).toArray = UU at *
  generalize ByteArray.mk (Bm.row (R ++ [b])).toArray = RR at *
  generalize ByteArray.mk (Bm.row (p ++ [b])).toArray = PP at *
  generalize ByteArray.mk (Bm.row R).toArray = Rb at *
  generalize ByteArray.mk (Bm.row p).toArray = Pb at *
  generalize Sm.next R = nx at *
  generalize Sm.next (R ++ [b]) = nx2 at *
  generalize (Sm.unstuff (R ++ [b])).2 = un at *
  have hz : g < w.heap.size := (Array.getElem?_eq_some_iff.1 hrow).1
  have HV : Hid (_) := hrow
  have hB : Hid (But g w w) := But.refl g w
  clear hrow
  go_enter Tryz.func67, Tryz.ntmps67
  go_wp2_with fail
  refine Lw.region_tail 11 (by kernel_rfl) (by kernel_rfl) ?_
  intro v1 hv1
  replace HV : Hid (_) := drew_row hv1 HV.out
  replace hB : Hid (But g w _) := But.trans hB.out (drew_but hv1)
  clear hv1
  have c0 : v1.cell? ⟨g, 0, none⟩ = some (.string S) := nine_cells HV.out 0 _ rfl
  have c4 : v1.cell? ⟨g, 4, none⟩ = some (.int .i64 (-1)) := nine_cells HV.out 4 _ rfl
  have c2 : v1.cell? ⟨g, 2, none⟩ = some (.string Rb) := nine_cells HV.out 2 _ rfl
  have z0 : v1.frozen? ⟨g, 0, none⟩ = false := frozen_of_row _ _ _ _ _ HV.out
  simp only [List.take_succ_cons, List.take_zero, List.drop_succ_cons, List.drop_zero]
  have hcat := fun W => run_cat S (ByteArray.mk #[Bm.sign ((c.toNat : Int) == 49)]) (by show _ + 1 ≤ _; omega) W
  rw [hb0] at hcat
  repeat (first | still_step | still_call (refBit_any _ _))
  refine wpStill_nil ?_
  clear hcat
  replace HV : Hid (_) := set0 HV.out (S ++ ByteArray.mk #[Bm.sign b])
  replace hB : Hid (But g w _) := But.trans hB.out (But.set g 0 (.string (S ++ ByteArray.mk #[Bm.sign b])) v1)
  go_wp2_with fail
  refine (HN1.out _).mono ?_
  rintro e v2 ⟨rfl, hb2⟩
  replace HV : Hid (_) := block_on (Array.getElem?_eq_some_iff.1 HV.out).1 hb2 HV.out
  replace hB : Hid (But g w _) := But.trans hB.out (But.of_below hb2)
  clear hb2 c0 c2 c4 z0 HN1
  go_wp2_with fail
  refine Lw.region_tail 11 (by kernel_rfl) (by kernel_rfl) ?_
  intro v3 hv3
  replace HV : Hid (_) := drew_row hv3 HV.out
  replace hB : Hid (But g w _) := But.trans hB.out (drew_but hv3)
  clear hv3
  have c2 : v3.cell? ⟨g, 2, none⟩ = some (.string Rb) := nine_cells HV.out 2 _ rfl
  have z2 : v3.frozen? ⟨g, 2, none⟩ = false := frozen_of_row _ _ _ _ _ HV.out
  simp only [List.take_succ_cons, List.take_zero, List.drop_succ_cons, List.drop_zero]
  have hcat := fun W => run_cat Rb (ByteArray.mk #[Bm.sign ((c.toNat : Int) == 49)]) (by show _ + 1 ≤ _; omega) W
  rw [hb0] at hcat
  repeat (first | still_step | still_call (refBit_any _ _))
  refine wpStill_nil ?_
  clear hcat
  replace HV : Hid (_) := set2r HV.out (Rb ++ ByteArray.mk #[Bm.sign b])
  replace hB : Hid (But g w _) := But.trans hB.out (But.set g 2 (.string (Rb ++ ByteArray.mk #[Bm.sign b])) v3)
  rw [HRs.out] at HV hB ⊢
  go_wp2_with fail
  refine (HU.out _).mono ?_
  rintro e v4 ⟨rfl, hb4⟩
  replace HV : Hid (_) := block_on (Array.getElem?_eq_some_iff.1 HV.out).1 hb4 HV.out
  replace hB : Hid (But g w _) := But.trans hB.out (But.of_below hb4)
  clear hb4 c2 z2 HU
  go_wp2_with fail
  have HF : Hid (∀ w', Below v4.heap.size v4 w' → ∀ (k : Nat) (yy : Value), (rcs (S ++ ByteArray.mk #[Bm.sign b]) Pb RR (-1) (-1) false 0 false ⟨#[]⟩)[k]? = some yy → w'.cell? ⟨g, k, none⟩ = some yy) := fun w' hb k yy hx => (hb.cell (p := ⟨g, k, none⟩) (Array.getElem?_eq_some_iff.1 HV.out).1).trans (nine_cells HV.out k yy hx)
  unfold rcs at HF
  refine Lw.wp_region_quiet_below (by kernel_rfl) (by kernel_rfl) ?_
  repeat (first
    | go_big_quiet_skip
    | (go_big_quiet_want; go_big_quiet_op; go_big_quiet_on)
    | (go_big_quiet_want; go_big_quiet_op; apply Exists.intro; refine ⟨fun _ hb' => ?_, ?_⟩; (first
      | exact Lw.val_rfl _
      | (go_at_call 95; exact Lw.calls_below hb' (HN2.out _))
      | (simp [go_sem, HF.out _ hb' 1 _ rfl]; rfl)
      | (simp [go_sem, HF.out _ hb' 2 _ rfl]; rfl)
      | (simp [go_sem, HF.out _ hb' 3 _ rfl]; rfl)); go_big_quiet_on))
  refine wpQuiet_nil ?_
  intro v9 hb9
  replace HV : Hid (_) := block_on (Array.getElem?_eq_some_iff.1 HV.out).1 hb9 HV.out
  replace hB : Hid (But g w _) := But.trans hB.out (But.of_below hb9)
  clear hb9 HF HN2
  go_wp2
  go_ret
  exact ⟨rfl, HV.out, hB.out⟩
set_option maxRecDepth 100000 in
set_option maxHeartbeats 4000000 in
theorem next_laid_some (g : Nat) (S : ByteArray) (hS : S.size ≤ 1000000) (p : List Bool) (R : List Bool) (c : UInt8) (w : World) (hR : R.length ≤ 1000000) (nn : Nat) (hnn : nn ≤ 1000000) (x : Bool) (n : Nat) (r : Bool) (d : ByteArray) (hc : Sm.calm (0, false) R) (h5 : (Sm.run (0, false) R).1 = 5) (h6 : (Sm.step (Sm.run (0, false) R) (Bm.isOne c)).1 ≠ 6)
    (hrow : w.heap[g]? = some (.cells (rcs S ⟨(Bm.row p).toArray⟩ ⟨(Bm.row R).toArray⟩ (nn : Int) (-1) x n r d) 89 (0, 0))) :
    Calls Tryz.prog 67 #[.pointer (some ⟨g, 0, none⟩), .int .u8 (c.toNat : Int)] w fun e w' => e = .returned (.int .i64 0) ∧ w'.heap[g]? = some (.cells (rcs (S ++ ByteArray.mk #[Bm.sign (Bm.isOne c)]) ⟨(Bm.row p).toArray⟩ ⟨(Bm.row (R ++ [Bm.isOne c])).toArray⟩ (nn : Int) (if p.length = nn + 15 ∧ (Sm.step (Sm.run (0, false) R) (Bm.isOne c)).1 ≠ 5 then (0 : Int) else -1) x n r d) 89 (0, 0)) ∧ But g w w' := by
  have hb0 := Bm.isOne_dec c
  generalize Bm.isOne c = b at *
  have HN1 : Hid (∀ w, Calls Tryz.prog 95 #[.string ⟨(Bm.row R).toArray⟩] w fun e w' => e = .returned (.int .i64 (Sm.next R)) ∧ Below w.heap.size w w') := fun w => rnext_row R (by omega) w
  have HU : Hid (∀ w, Calls Tryz.prog 96 #[.string ⟨(Bm.row (R ++ [b])).toArray⟩] w fun e w' => e = .returned (.tuple #[.string ⟨(Bm.row (Sm.unstuff (R ++ [b])).1).toArray⟩, .int .i64 (Sm.unstuff (R ++ [b])).2]) ∧ Below w.heap.size w w') := fun w => run_row (R ++ [b]) (by rw [List.length_append]; simp only [List.length_cons, List.length_nil]; omega) w
  have HN2 : Hid (∀ w, Calls Tryz.prog 95 #[.string ⟨(Bm.row (R ++ [b])).toArray⟩] w fun e w' => e = .returned (.int .i64 (Sm.next (R ++ [b]))) ∧ Below w.heap.size w w') := fun w => rnext_row (R ++ [b]) (by rw [List.length_append]; simp only [List.length_cons, List.length_nil]; omega) w
  have HRs : Hid (_) := row_snoc R b
  have HPs : Hid (_) := row_snoc p b
  have sR := size_rowr R
  have sP := size_rowr p
  have sP2 : (ByteArray.mk (Bm.row (p ++ [b])).toArray).size = p.length + 1 := by rw [size_rowr, List.length_append]; rfl
  have hun : (Sm.unstuff (R ++ [b])).2 = -1 := by
    rcases un_at R hc b with ⟨h, _⟩ | ⟨_, h⟩
    · exact absurd h h6
    · exact h
  have hnx : 0 ≤ Sm.next R := by
    rcases next_at R hc with ⟨_, h⟩ | ⟨h, _⟩
    · exact h
    · exact absurd h5 h
  have htl : ((p.length = nn + 15 ∧ Sm.next (R ++ [b]) < 0) ∧ (if p.length = nn + 15 ∧ (Sm.step (Sm.run (0, false) R) b).1 ≠ 5 then (0 : Int) else -1) = 0) ∨ (¬ (p.length = nn + 15 ∧ Sm.next (R ++ [b]) < 0) ∧ (if p.length = nn + 15 ∧ (Sm.step (Sm.run (0, false) R) b).1 ≠ 5 then (0 : Int) else -1) = -1) := by
    have h := next_at (R ++ [b]) (calm_snoc R hc b h6)
    rw [run_snoc] at h
    by_cases hl : p.length = nn + 15
    · rcases h with ⟨h, h'⟩ | ⟨h, h'⟩
      · right
        exact ⟨fun k => by omega, if_neg (fun k => k.2 h)⟩
      · left
        exact ⟨⟨hl, h'⟩, if_pos ⟨hl, h⟩⟩
    · right
      exact ⟨fun k => hl k.1, if_neg (fun k => hl k.1)⟩
  generalize (if p.length = nn + 15 ∧ (Sm.step (Sm.run (0, false) R) b).1 ≠ 5 then (0 : Int) else -1) = tl at *
  clear h5 h6 hc
  generalize ByteArray.mk (Bm.row (Sm.unstuff (R ++ [b])).1).toArray = UU at *
  generalize ByteArray.mk (Bm.row (R ++ [b])).toArray = RR at *
  generalize ByteArray.mk (Bm.row (p ++ [b])).toArray = PP at *
  generalize ByteArray.mk (Bm.row R).toArray = Rb at *
  generalize ByteArray.mk (Bm.row p).toArray = Pb at *
  generalize Sm.next R = nx at *
  generalize Sm.next (R ++ [b]) = nx2 at *
  generalize (Sm.unstuff (R ++ [b])).2 = un at *
  have hz : g < w.heap.size := (Array.getElem?_eq_some_iff.1 hrow).1
  have HV : Hid (_) := hrow
  have hB : Hid (But g w w) := But.refl g w
  clear hrow
  go_enter Tryz.func67, Tryz.ntmps67
  go_wp2_with fail
  refine Lw.region_tail 11 (by kernel_rfl) (by kernel_rfl) ?_
  intro v1 hv1
  replace HV : Hid (_) := drew_row hv1 HV.out
  replace hB : Hid (But g w _) := But.trans hB.out (drew_but hv1)
  clear hv1
  have c0 : v1.cell? ⟨g, 0, none⟩ = some (.string S) := nine_cells HV.out 0 _ rfl
  have c4 : v1.cell? ⟨g, 4, none⟩ = some (.int .i64 (-1)) := nine_cells HV.out 4 _ rfl
  have c2 : v1.cell? ⟨g, 2, none⟩ = some (.string Rb) := nine_cells HV.out 2 _ rfl
  have z0 : v1.frozen? ⟨g, 0, none⟩ = false := frozen_of_row _ _ _ _ _ HV.out
  simp only [List.take_succ_cons, List.take_zero, List.drop_succ_cons, List.drop_zero]
  have hcat := fun W => run_cat S (ByteArray.mk #[Bm.sign ((c.toNat : Int) == 49)]) (by show _ + 1 ≤ _; omega) W
  rw [hb0] at hcat
  repeat (first | still_step | still_call (refBit_any _ _))
  refine wpStill_nil ?_
  clear hcat
  replace HV : Hid (_) := set0 HV.out (S ++ ByteArray.mk #[Bm.sign b])
  replace hB : Hid (But g w _) := But.trans hB.out (But.set g 0 (.string (S ++ ByteArray.mk #[Bm.sign b])) v1)
  go_wp2_with fail
  refine (HN1.out _).mono ?_
  rintro e v2 ⟨rfl, hb2⟩
  replace HV : Hid (_) := block_on (Array.getElem?_eq_some_iff.1 HV.out).1 hb2 HV.out
  replace hB : Hid (But g w _) := But.trans hB.out (But.of_below hb2)
  clear hb2 c0 c2 c4 z0 HN1
  go_wp2_with fail
  refine Lw.region_tail 11 (by kernel_rfl) (by kernel_rfl) ?_
  intro v3 hv3
  replace HV : Hid (_) := drew_row hv3 HV.out
  replace hB : Hid (But g w _) := But.trans hB.out (drew_but hv3)
  clear hv3
  have c2 : v3.cell? ⟨g, 2, none⟩ = some (.string Rb) := nine_cells HV.out 2 _ rfl
  have z2 : v3.frozen? ⟨g, 2, none⟩ = false := frozen_of_row _ _ _ _ _ HV.out
  simp only [List.take_succ_cons, List.take_zero, List.drop_succ_cons, List.drop_zero]
  have hcat := fun W => run_cat Rb (ByteArray.mk #[Bm.sign ((c.toNat : Int) == 49)]) (by show _ + 1 ≤ _; omega) W
  rw [hb0] at hcat
  repeat (first | still_step | still_call (refBit_any _ _))
  refine wpStill_nil ?_
  clear hcat
  replace HV : Hid (_) := set2r HV.out (Rb ++ ByteArray.mk #[Bm.sign b])
  replace hB : Hid (But g w _) := But.trans hB.out (But.set g 2 (.string (Rb ++ ByteArray.mk #[Bm.sign b])) v3)
  rw [HRs.out] at HV hB ⊢
  go_wp2_with fail
  refine (HU.out _).mono ?_
  rintro e v4 ⟨rfl, hb4⟩
  replace HV : Hid (_) := block_on (Array.getElem?_eq_some_iff.1 HV.out).1 hb4 HV.out
  replace hB : Hid (But g w _) := But.trans hB.out (But.of_below hb4)
  clear hb4 c2 z2 HU
  go_wp2_with fail
  have HF : Hid (∀ w', Below v4.heap.size v4 w' → ∀ (k : Nat) (yy : Value), (rcs (S ++ ByteArray.mk #[Bm.sign b]) Pb RR (nn : Int) (-1) x n r d)[k]? = some yy → w'.cell? ⟨g, k, none⟩ = some yy) := fun w' hb k yy hx => (hb.cell (p := ⟨g, k, none⟩) (Array.getElem?_eq_some_iff.1 HV.out).1).trans (nine_cells HV.out k yy hx)
  unfold rcs at HF
  have hln : Pb.size = p.length := by omega
  clear sP sP2
  by_cases hl : Pb.size = nn + 15
  · skip
    have hl3 : p.length = nn + 15 := by omega
    clear hln
    refine Lw.wp_region_quiet_below (by kernel_rfl) (by kernel_rfl) ?_
    repeat (first
      | go_big_quiet_skip
      | (go_big_quiet_want; go_big_quiet_op; go_big_quiet_on)
      | (go_big_quiet_want; go_big_quiet_op; apply Exists.intro; refine ⟨fun _ hb' => ?_, ?_⟩; (first
        | exact Lw.val_rfl _
        | (go_at_call 95; exact Lw.calls_below hb' (HN2.out _))
        | (simp [go_sem, HF.out _ hb' 1 _ rfl]; rfl)
        | (simp [go_sem, HF.out _ hb' 2 _ rfl]; rfl)
        | (simp [go_sem, HF.out _ hb' 3 _ rfl]; rfl)); go_big_quiet_on))
    refine wpQuiet_nil ?_
    intro v9 hb9
    replace HV : Hid (_) := block_on (Array.getElem?_eq_some_iff.1 HV.out).1 hb9 HV.out
    replace hB : Hid (But g w _) := But.trans hB.out (But.of_below hb9)
    clear hb9 HF HN2
    rcases htl with ⟨⟨_, hn⟩, rfl⟩ | ⟨hn, rfl⟩
    · skip
      have z4 : v9.frozen? ⟨g, 4, none⟩ = false := frozen_of_row _ _ _ _ _ HV.out
      have c4 : v9.cell? ⟨g, 4, none⟩ = some (.int .i64 (-1)) := nine_cells HV.out 4 _ rfl
      go_wp2
      go_ret
      exact ⟨rfl, set4 HV.out 0, But.trans hB.out (But.set g 4 (.int .i64 0) v9)⟩
    · skip
      have hn2 : ¬ nx2 < 0 := fun k => hn ⟨hl3, k⟩
      go_wp2
      go_ret
      exact ⟨rfl, HV.out, hB.out⟩
  · skip
    have htl0 : tl = -1 := by
      rcases htl with ⟨⟨h, _⟩, _⟩ | ⟨_, h⟩
      · omega
      · exact h
    subst htl0
    clear hln
    have hl1 : ((Pb.size : Int) == (nn : Int) + 15) = false := by
      rw [beq_eq_false_iff_ne]
      omega
    refine Lw.wp_region_quiet_below (by kernel_rfl) (by kernel_rfl) ?_
    repeat (first
      | go_big_quiet_skip
      | (go_big_quiet_want; go_big_quiet_op; go_big_quiet_on)
      | (go_big_quiet_want; go_big_quiet_op; apply Exists.intro; refine ⟨fun _ hb' => ?_, ?_⟩; (first
        | exact Lw.val_rfl _
        | (go_at_call 95; exact Lw.calls_below hb' (HN2.out _))
        | (simp [go_sem, HF.out _ hb' 1 _ rfl]; rfl)
        | (simp [go_sem, HF.out _ hb' 2 _ rfl]; rfl)
        | (simp [go_sem, HF.out _ hb' 3 _ rfl]; rfl)); go_big_quiet_on))
    refine wpQuiet_nil ?_
    intro v9 hb9
    replace HV : Hid (_) := block_on (Array.getElem?_eq_some_iff.1 HV.out).1 hb9 HV.out
    replace hB : Hid (But g w _) := But.trans hB.out (But.of_below hb9)
    clear hb9 HF HN2
    go_wp2
    go_ret
    exact ⟨rfl, HV.out, hB.out⟩
end Go.Proofs.YthkaekpoicodeaaGreatDoor
/- The document's own reader of frames: what Next answers at a bit that is not laid, over its text. -/
namespace Go.Proofs.YthkaekpoicodeaaGreatDoor
open Go.RowKit
set_option maxRecDepth 100000 in
set_option maxHeartbeats 4000000 in
theorem next_more_some (g : Nat) (S : ByteArray) (hS : S.size ≤ 1000000) (p : List Bool) (R : List Bool) (c : UInt8) (w : World) (hR : R.length ≤ 1000000) (nn : Nat) (hnn : nn ≤ 1000000) (x : Bool) (n : Nat) (r : Bool) (d : ByteArray) (hc : Sm.calm (0, false) R) (hp : p.length ≤ 1000000) (h5 : (Sm.run (0, false) R).1 ≠ 5) (h6 : (Sm.step (Sm.run (0, false) R) (Bm.isOne c)).1 ≠ 6)
    (hrow : w.heap[g]? = some (.cells (rcs S ⟨(Bm.row p).toArray⟩ ⟨(Bm.row R).toArray⟩ (nn : Int) (-1) x n r d) 89 (0, 0))) :
    Calls Tryz.prog 67 #[.pointer (some ⟨g, 0, none⟩), .int .u8 (c.toNat : Int)] w fun e w' => e = .returned (.int .i64 0) ∧ w'.heap[g]? = some (.cells (rcs (S ++ ByteArray.mk #[Bm.sign (Bm.isOne c)]) ⟨(Bm.row (p ++ [Bm.isOne c])).toArray⟩ ⟨(Bm.row (R ++ [Bm.isOne c])).toArray⟩ (nn : Int) (if p.length + 1 = nn + 15 ∧ (Sm.step (Sm.run (0, false) R) (Bm.isOne c)).1 ≠ 5 then (0 : Int) else -1) x n r d) 89 (0, 0)) ∧ But g w w' := by
  have hb0 := Bm.isOne_dec c
  generalize Bm.isOne c = b at *
  have HN1 : Hid (∀ w, Calls Tryz.prog 95 #[.string ⟨(Bm.row R).toArray⟩] w fun e w' => e = .returned (.int .i64 (Sm.next R)) ∧ Below w.heap.size w w') := fun w => rnext_row R (by omega) w
  have HU : Hid (∀ w, Calls Tryz.prog 96 #[.string ⟨(Bm.row (R ++ [b])).toArray⟩] w fun e w' => e = .returned (.tuple #[.string ⟨(Bm.row (Sm.unstuff (R ++ [b])).1).toArray⟩, .int .i64 (Sm.unstuff (R ++ [b])).2]) ∧ Below w.heap.size w w') := fun w => run_row (R ++ [b]) (by rw [List.length_append]; simp only [List.length_cons, List.length_nil]; omega) w
  have HN2 : Hid (∀ w, Calls Tryz.prog 95 #[.string ⟨(Bm.row (R ++ [b])).toArray⟩] w fun e w' => e = .returned (.int .i64 (Sm.next (R ++ [b]))) ∧ Below w.heap.size w w') := fun w => rnext_row (R ++ [b]) (by rw [List.length_append]; simp only [List.length_cons, List.length_nil]; omega) w
  have HRs : Hid (_) := row_snoc R b
  have HPs : Hid (_) := row_snoc p b
  have sR := size_rowr R
  have sP := size_rowr p
  have sP2 : (ByteArray.mk (Bm.row (p ++ [b])).toArray).size = p.length + 1 := by rw [size_rowr, List.length_append]; rfl
  have hun : (Sm.unstuff (R ++ [b])).2 = -1 := by
    rcases un_at R hc b with ⟨h, _⟩ | ⟨_, h⟩
    · exact absurd h h6
    · exact h
  have hnx : Sm.next R < 0 := by
    rcases next_at R hc with ⟨h, _⟩ | ⟨_, h⟩
    · exact absurd h h5
    · exact h
  have hnxb : decide (0 ≤ Sm.next R) = false := by
    rw [decide_eq_false_iff_not]
    omega
  have htl : ((p.length + 1 = nn + 15 ∧ Sm.next (R ++ [b]) < 0) ∧ (if p.length + 1 = nn + 15 ∧ (Sm.step (Sm.run (0, false) R) b).1 ≠ 5 then (0 : Int) else -1) = 0) ∨ (¬ (p.length + 1 = nn + 15 ∧ Sm.next (R ++ [b]) < 0) ∧ (if p.length + 1 = nn + 15 ∧ (Sm.step (Sm.run (0, false) R) b).1 ≠ 5 then (0 : Int) else -1) = -1) := by
    have h := next_at (R ++ [b]) (calm_snoc R hc b h6)
    rw [run_snoc] at h
    by_cases hl : p.length + 1 = nn + 15
    · rcases h with ⟨h, h'⟩ | ⟨h, h'⟩
      · right
        exact ⟨fun k => by omega, if_neg (fun k => k.2 h)⟩
      · left
        exact ⟨⟨hl, h'⟩, if_pos ⟨hl, h⟩⟩
    · right
      exact ⟨fun k => hl k.1, if_neg (fun k => hl k.1)⟩
  generalize (if p.length + 1 = nn + 15 ∧ (Sm.step (Sm.run (0, false) R) b).1 ≠ 5 then (0 : Int) else -1) = tl at *
  clear h5 h6 hc
  generalize ByteArray.mk (Bm.row (Sm.unstuff (R ++ [b])).1).toArray = UU at *
  generalize ByteArray.mk (Bm.row (R ++ [b])).toArray = RR at *
  generalize ByteArray.mk (Bm.row (p ++ [b])).toArray = PP at *
  generalize ByteArray.mk (Bm.row R).toArray = Rb at *
  generalize ByteArray.mk (Bm.row p).toArray = Pb at *
  generalize Sm.next R = nx at *
  generalize Sm.next (R ++ [b]) = nx2 at *
  generalize (Sm.unstuff (R ++ [b])).2 = un at *
  have hz : g < w.heap.size := (Array.getElem?_eq_some_iff.1 hrow).1
  have HV : Hid (_) := hrow
  have hB : Hid (But g w w) := But.refl g w
  clear hrow
  go_enter Tryz.func67, Tryz.ntmps67
  go_wp2_with fail
  refine Lw.region_tail 11 (by kernel_rfl) (by kernel_rfl) ?_
  intro v1 hv1
  replace HV : Hid (_) := drew_row hv1 HV.out
  replace hB : Hid (But g w _) := But.trans hB.out (drew_but hv1)
  clear hv1
  have c0 : v1.cell? ⟨g, 0, none⟩ = some (.string S) := nine_cells HV.out 0 _ rfl
  have c4 : v1.cell? ⟨g, 4, none⟩ = some (.int .i64 (-1)) := nine_cells HV.out 4 _ rfl
  have c2 : v1.cell? ⟨g, 2, none⟩ = some (.string Rb) := nine_cells HV.out 2 _ rfl
  have z0 : v1.frozen? ⟨g, 0, none⟩ = false := frozen_of_row _ _ _ _ _ HV.out
  simp only [List.take_succ_cons, List.take_zero, List.drop_succ_cons, List.drop_zero]
  have hcat := fun W => run_cat S (ByteArray.mk #[Bm.sign ((c.toNat : Int) == 49)]) (by show _ + 1 ≤ _; omega) W
  rw [hb0] at hcat
  repeat (first | still_step | still_call (refBit_any _ _))
  refine wpStill_nil ?_
  clear hcat
  replace HV : Hid (_) := set0 HV.out (S ++ ByteArray.mk #[Bm.sign b])
  replace hB : Hid (But g w _) := But.trans hB.out (But.set g 0 (.string (S ++ ByteArray.mk #[Bm.sign b])) v1)
  go_wp2_with fail
  refine (HN1.out _).mono ?_
  rintro e v2 ⟨rfl, hb2⟩
  replace HV : Hid (_) := block_on (Array.getElem?_eq_some_iff.1 HV.out).1 hb2 HV.out
  replace hB : Hid (But g w _) := But.trans hB.out (But.of_below hb2)
  clear hb2 c0 c2 c4 z0 HN1
  go_wp2_with fail
  refine Lw.region_tail 11 (by kernel_rfl) (by kernel_rfl) ?_
  intro v3 hv3
  replace HV : Hid (_) := drew_row hv3 HV.out
  replace hB : Hid (But g w _) := But.trans hB.out (drew_but hv3)
  clear hv3
  have c2 : v3.cell? ⟨g, 2, none⟩ = some (.string Rb) := nine_cells HV.out 2 _ rfl
  have z2 : v3.frozen? ⟨g, 2, none⟩ = false := frozen_of_row _ _ _ _ _ HV.out
  simp only [List.take_succ_cons, List.take_zero, List.drop_succ_cons, List.drop_zero]
  have hcat := fun W => run_cat Rb (ByteArray.mk #[Bm.sign ((c.toNat : Int) == 49)]) (by show _ + 1 ≤ _; omega) W
  rw [hb0] at hcat
  repeat (first | still_step | still_call (refBit_any _ _))
  refine wpStill_nil ?_
  clear hcat
  replace HV : Hid (_) := set2r HV.out (Rb ++ ByteArray.mk #[Bm.sign b])
  replace hB : Hid (But g w _) := But.trans hB.out (But.set g 2 (.string (Rb ++ ByteArray.mk #[Bm.sign b])) v3)
  rw [HRs.out] at HV hB ⊢
  go_wp2_with fail
  refine (HU.out _).mono ?_
  rintro e v4 ⟨rfl, hb4⟩
  replace HV : Hid (_) := block_on (Array.getElem?_eq_some_iff.1 HV.out).1 hb4 HV.out
  replace hB : Hid (But g w _) := But.trans hB.out (But.of_below hb4)
  clear hb4 c2 z2 HU
  go_wp2_with fail
  refine Lw.region_tail 11 (by kernel_rfl) (by kernel_rfl) ?_
  intro v5 hv5
  replace HV : Hid (_) := drew_row hv5 HV.out
  replace hB : Hid (But g w _) := But.trans hB.out (drew_but hv5)
  clear hv5
  have c1 : v5.cell? ⟨g, 1, none⟩ = some (.string Pb) := nine_cells HV.out 1 _ rfl
  have c3 : v5.cell? ⟨g, 3, none⟩ = some (.int .i64 (nn : Int)) := nine_cells HV.out 3 _ rfl
  have z1 : v5.frozen? ⟨g, 1, none⟩ = false := frozen_of_row _ _ _ _ _ HV.out
  simp only [List.take_succ_cons, List.take_zero, List.drop_succ_cons, List.drop_zero]
  have hcat := fun W => run_cat Pb (ByteArray.mk #[Bm.sign ((c.toNat : Int) == 49)]) (by show _ + 1 ≤ _; omega) W
  rw [hb0] at hcat
  repeat (first | still_step | still_call (refBit_any _ _))
  refine wpStill_nil ?_
  clear hcat
  replace HV : Hid (_) := set1r HV.out (Pb ++ ByteArray.mk #[Bm.sign b])
  replace hB : Hid (But g w _) := But.trans hB.out (But.set g 1 (.string (Pb ++ ByteArray.mk #[Bm.sign b])) v5)
  rw [HPs.out] at HV hB ⊢
  clear HPs
  go_wp2_with fail
  generalize hvv : v5.setCell ⟨g, 1, none⟩ (.string PP) = v6 at *
  clear hvv c1 c3 z1
  have HF : Hid (∀ w', Below v6.heap.size v6 w' → ∀ (k : Nat) (yy : Value), (rcs (S ++ ByteArray.mk #[Bm.sign b]) PP RR (nn : Int) (-1) x n r d)[k]? = some yy → w'.cell? ⟨g, k, none⟩ = some yy) := fun w' hb k yy hx => (hb.cell (p := ⟨g, k, none⟩) (Array.getElem?_eq_some_iff.1 HV.out).1).trans (nine_cells HV.out k yy hx)
  unfold rcs at HF
  have hln : PP.size = p.length + 1 := by omega
  clear sP sP2
  by_cases hl : PP.size = nn + 15
  · skip
    have hl3 : p.length + 1 = nn + 15 := by omega
    clear hln
    refine Lw.wp_region_quiet_below (by kernel_rfl) (by kernel_rfl) ?_
    repeat (first
      | go_big_quiet_skip
      | (go_big_quiet_want; go_big_quiet_op; go_big_quiet_on)
      | (go_big_quiet_want; go_big_quiet_op; apply Exists.intro; refine ⟨fun _ hb' => ?_, ?_⟩; (first
        | exact Lw.val_rfl _
        | (go_at_call 95; exact Lw.calls_below hb' (HN2.out _))
        | (simp [go_sem, HF.out _ hb' 1 _ rfl]; rfl)
        | (simp [go_sem, HF.out _ hb' 2 _ rfl]; rfl)
        | (simp [go_sem, HF.out _ hb' 3 _ rfl]; rfl)); go_big_quiet_on))
    refine wpQuiet_nil ?_
    intro v9 hb9
    replace HV : Hid (_) := block_on (Array.getElem?_eq_some_iff.1 HV.out).1 hb9 HV.out
    replace hB : Hid (But g w _) := But.trans hB.out (But.of_below hb9)
    clear hb9 HF HN2
    rcases htl with ⟨⟨_, hn⟩, rfl⟩ | ⟨hn, rfl⟩
    · skip
      have z4 : v9.frozen? ⟨g, 4, none⟩ = false := frozen_of_row _ _ _ _ _ HV.out
      have c4 : v9.cell? ⟨g, 4, none⟩ = some (.int .i64 (-1)) := nine_cells HV.out 4 _ rfl
      go_wp2
      go_ret
      exact ⟨rfl, set4 HV.out 0, But.trans hB.out (But.set g 4 (.int .i64 0) v9)⟩
    · skip
      have hn2 : ¬ nx2 < 0 := fun k => hn ⟨hl3, k⟩
      go_wp2
      go_ret
      exact ⟨rfl, HV.out, hB.out⟩
  · skip
    have htl0 : tl = -1 := by
      rcases htl with ⟨⟨h, _⟩, _⟩ | ⟨_, h⟩
      · omega
      · exact h
    subst htl0
    clear hln
    have hl1 : ((PP.size : Int) == (nn : Int) + 15) = false := by
      rw [beq_eq_false_iff_ne]
      omega
    refine Lw.wp_region_quiet_below (by kernel_rfl) (by kernel_rfl) ?_
    repeat (first
      | go_big_quiet_skip
      | (go_big_quiet_want; go_big_quiet_op; go_big_quiet_on)
      | (go_big_quiet_want; go_big_quiet_op; apply Exists.intro; refine ⟨fun _ hb' => ?_, ?_⟩; (first
        | exact Lw.val_rfl _
        | (go_at_call 95; exact Lw.calls_below hb' (HN2.out _))
        | (simp [go_sem, HF.out _ hb' 1 _ rfl]; rfl)
        | (simp [go_sem, HF.out _ hb' 2 _ rfl]; rfl)
        | (simp [go_sem, HF.out _ hb' 3 _ rfl]; rfl)); go_big_quiet_on))
    refine wpQuiet_nil ?_
    intro v9 hb9
    replace HV : Hid (_) := block_on (Array.getElem?_eq_some_iff.1 HV.out).1 hb9 HV.out
    replace hB : Hid (But g w _) := But.trans hB.out (But.of_below hb9)
    clear hb9 HF HN2
    go_wp2
    go_ret
    exact ⟨rfl, HV.out, hB.out⟩
end Go.Proofs.YthkaekpoicodeaaGreatDoor
/- The document's own reader of frames: what Next answers as long as the frame is not known, over its text. -/
namespace Go.Proofs.YthkaekpoicodeaaGreatDoor
open Go.RowKit
theorem set3r {w : World} {g : Nat} {S P R : ByteArray} {want tail : Int} {x : Bool} {n : Nat} {r : Bool} {d : ByteArray} {T : TypeId} (h : w.heap[g]? = some (.cells (rcs S P R want tail x n r d) T (0, 0))) (v : Int) : (w.setCell ⟨g, 3, none⟩ (.int .i64 v)).heap[g]? = some (.cells (rcs S P R v tail x n r d) T (0, 0)) := by
  rw [heap_setCell_same _ _ _ _ _ _ h]; rfl
theorem set5r {w : World} {g : Nat} {S P R : ByteArray} {want tail : Int} {x : Bool} {n : Nat} {r : Bool} {d : ByteArray} {T : TypeId} (h : w.heap[g]? = some (.cells (rcs S P R want tail x n r d) T (0, 0))) (v : Bool) : (w.setCell ⟨g, 5, none⟩ (.bool v)).heap[g]? = some (.cells (rcs S P R want tail v n r d) T (0, 0)) := by
  rw [heap_setCell_same _ _ _ _ _ _ h]; rfl
theorem set6r {w : World} {g : Nat} {S P R : ByteArray} {want tail : Int} {x : Bool} {n : Nat} {r : Bool} {d : ByteArray} {T : TypeId} (h : w.heap[g]? = some (.cells (rcs S P R want tail x n r d) T (0, 0))) (v : Nat) : (w.setCell ⟨g, 6, none⟩ (.int .u32 (v : Int))).heap[g]? = some (.cells (rcs S P R want tail x v r d) T (0, 0)) := by
  rw [heap_setCell_same _ _ _ _ _ _ h]; rfl
theorem set7r {w : World} {g : Nat} {S P R : ByteArray} {want tail : Int} {x : Bool} {n : Nat} {r : Bool} {d : ByteArray} {T : TypeId} (h : w.heap[g]? = some (.cells (rcs S P R want tail x n r d) T (0, 0))) (v : Bool) : (w.setCell ⟨g, 7, none⟩ (.bool v)).heap[g]? = some (.cells (rcs S P R want tail x n v d) T (0, 0)) := by
  rw [heap_setCell_same _ _ _ _ _ _ h]; rfl
theorem set8r {w : World} {g : Nat} {S P R : ByteArray} {want tail : Int} {x : Bool} {n : Nat} {r : Bool} {d : ByteArray} {T : TypeId} (h : w.heap[g]? = some (.cells (rcs S P R want tail x n r d) T (0, 0))) (v : ByteArray) : (w.setCell ⟨g, 8, none⟩ (.string v)).heap[g]? = some (.cells (rcs S P R want tail x n r v) T (0, 0)) := by
  rw [heap_setCell_same _ _ _ _ _ _ h]; rfl
set_option maxRecDepth 100000 in
set_option maxHeartbeats 4000000 in
theorem next_more_bad (g : Nat) (S : ByteArray) (hS : S.size ≤ 1000000) (p : List Bool) (R : List Bool) (c : UInt8) (w : World) (hR : R.length ≤ 1000000)  (hc : Sm.calm (0, false) R) (hp : p.length ≤ 1000000) (h5 : (Sm.run (0, false) R).1 ≠ 5) (h6 : (Sm.step (Sm.run (0, false) R) (Bm.isOne c)).1 ≠ 6) (he : (Fm.parse (p ++ [Bm.isOne c])).2.2 = 12)
    (hrow : w.heap[g]? = some (.cells (rcs S ⟨(Bm.row p).toArray⟩ ⟨(Bm.row R).toArray⟩ (-1) (-1) false 0 false ⟨#[]⟩) 89 (0, 0))) :
    Calls Tryz.prog 67 #[.pointer (some ⟨g, 0, none⟩), .int .u8 (c.toNat : Int)] w fun e w' => e = .returned (.int .i64 12) ∧ But g w w' := by
  have hb0 := Bm.isOne_dec c
  generalize Bm.isOne c = b at *
  have HN1 : Hid (∀ w, Calls Tryz.prog 95 #[.string ⟨(Bm.row R).toArray⟩] w fun e w' => e = .returned (.int .i64 (Sm.next R)) ∧ Below w.heap.size w w') := fun w => rnext_row R (by omega) w
  have HU : Hid (∀ w, Calls Tryz.prog 96 #[.string ⟨(Bm.row (R ++ [b])).toArray⟩] w fun e w' => e = .returned (.tuple #[.string ⟨(Bm.row (Sm.unstuff (R ++ [b])).1).toArray⟩, .int .i64 (Sm.unstuff (R ++ [b])).2]) ∧ Below w.heap.size w w') := fun w => run_row (R ++ [b]) (by rw [List.length_append]; simp only [List.length_cons, List.length_nil]; omega) w
  have HN2 : Hid (∀ w, Calls Tryz.prog 95 #[.string ⟨(Bm.row (R ++ [b])).toArray⟩] w fun e w' => e = .returned (.int .i64 (Sm.next (R ++ [b]))) ∧ Below w.heap.size w w') := fun w => rnext_row (R ++ [b]) (by rw [List.length_append]; simp only [List.length_cons, List.length_nil]; omega) w
  have HRs : Hid (_) := row_snoc R b
  have HPs : Hid (_) := row_snoc p b
  have sR := size_rowr R
  have sP := size_rowr p
  have sP2 : (ByteArray.mk (Bm.row (p ++ [b])).toArray).size = p.length + 1 := by rw [size_rowr, List.length_append]; rfl
  have hun : (Sm.unstuff (R ++ [b])).2 = -1 := by
    rcases un_at R hc b with ⟨h, _⟩ | ⟨_, h⟩
    · exact absurd h h6
    · exact h
  have hnx : Sm.next R < 0 := by
    rcases next_at R hc with ⟨h, _⟩ | ⟨_, h⟩
    · exact absurd h h5
    · exact h
  have hnxb : decide (0 ≤ Sm.next R) = false := by
    rw [decide_eq_false_iff_not]
    omega
  have HPp : Hid (∀ w, Calls Tryz.prog 97 #[.string ⟨(Bm.row (p ++ [b])).toArray⟩] w fun e w' => e = .returned (fv (Fm.parse (p ++ [b]))) ∧ Below w.heap.size w w') := fun w => rparse_row (p ++ [b]) (by rw [List.length_append]; simp only [List.length_cons, List.length_nil]; omega) w
  rcases hpp : Fm.parse (p ++ [b]) with ⟨⟨x, n, r, d⟩, nn, ec⟩
  rw [hpp] at HPp he
  replace he : ec = _ := he
  subst he
  unfold fv at HPp
  clear h5 h6 hc
  generalize ByteArray.mk (Bm.row (Sm.unstuff (R ++ [b])).1).toArray = UU at *
  generalize ByteArray.mk (Bm.row (R ++ [b])).toArray = RR at *
  generalize ByteArray.mk (Bm.row (p ++ [b])).toArray = PP at *
  generalize ByteArray.mk (Bm.row R).toArray = Rb at *
  generalize ByteArray.mk (Bm.row p).toArray = Pb at *
  generalize Sm.next R = nx at *
  generalize Sm.next (R ++ [b]) = nx2 at *
  generalize (Sm.unstuff (R ++ [b])).2 = un at *
  have hz : g < w.heap.size := (Array.getElem?_eq_some_iff.1 hrow).1
  have HV : Hid (_) := hrow
  have hB : Hid (But g w w) := But.refl g w
  clear hrow
  go_enter Tryz.func67, Tryz.ntmps67
  go_wp2_with fail
  refine Lw.region_tail 11 (by kernel_rfl) (by kernel_rfl) ?_
  intro v1 hv1
  replace HV : Hid (_) := drew_row hv1 HV.out
  replace hB : Hid (But g w _) := But.trans hB.out (drew_but hv1)
  clear hv1
  have c0 : v1.cell? ⟨g, 0, none⟩ = some (.string S) := nine_cells HV.out 0 _ rfl
  have c4 : v1.cell? ⟨g, 4, none⟩ = some (.int .i64 (-1)) := nine_cells HV.out 4 _ rfl
  have c2 : v1.cell? ⟨g, 2, none⟩ = some (.string Rb) := nine_cells HV.out 2 _ rfl
  have z0 : v1.frozen? ⟨g, 0, none⟩ = false := frozen_of_row _ _ _ _ _ HV.out
  simp only [List.take_succ_cons, List.take_zero, List.drop_succ_cons, List.drop_zero]
  have hcat := fun W => run_cat S (ByteArray.mk #[Bm.sign ((c.toNat : Int) == 49)]) (by show _ + 1 ≤ _; omega) W
  rw [hb0] at hcat
  repeat (first | still_step | still_call (refBit_any _ _))
  refine wpStill_nil ?_
  clear hcat
  replace HV : Hid (_) := set0 HV.out (S ++ ByteArray.mk #[Bm.sign b])
  replace hB : Hid (But g w _) := But.trans hB.out (But.set g 0 (.string (S ++ ByteArray.mk #[Bm.sign b])) v1)
  go_wp2_with fail
  refine (HN1.out _).mono ?_
  rintro e v2 ⟨rfl, hb2⟩
  replace HV : Hid (_) := block_on (Array.getElem?_eq_some_iff.1 HV.out).1 hb2 HV.out
  replace hB : Hid (But g w _) := But.trans hB.out (But.of_below hb2)
  clear hb2 c0 c2 c4 z0 HN1
  go_wp2_with fail
  refine Lw.region_tail 11 (by kernel_rfl) (by kernel_rfl) ?_
  intro v3 hv3
  replace HV : Hid (_) := drew_row hv3 HV.out
  replace hB : Hid (But g w _) := But.trans hB.out (drew_but hv3)
  clear hv3
  have c2 : v3.cell? ⟨g, 2, none⟩ = some (.string Rb) := nine_cells HV.out 2 _ rfl
  have z2 : v3.frozen? ⟨g, 2, none⟩ = false := frozen_of_row _ _ _ _ _ HV.out
  simp only [List.take_succ_cons, List.take_zero, List.drop_succ_cons, List.drop_zero]
  have hcat := fun W => run_cat Rb (ByteArray.mk #[Bm.sign ((c.toNat : Int) == 49)]) (by show _ + 1 ≤ _; omega) W
  rw [hb0] at hcat
  repeat (first | still_step | still_call (refBit_any _ _))
  refine wpStill_nil ?_
  clear hcat
  replace HV : Hid (_) := set2r HV.out (Rb ++ ByteArray.mk #[Bm.sign b])
  replace hB : Hid (But g w _) := But.trans hB.out (But.set g 2 (.string (Rb ++ ByteArray.mk #[Bm.sign b])) v3)
  rw [HRs.out] at HV hB ⊢
  go_wp2_with fail
  refine (HU.out _).mono ?_
  rintro e v4 ⟨rfl, hb4⟩
  replace HV : Hid (_) := block_on (Array.getElem?_eq_some_iff.1 HV.out).1 hb4 HV.out
  replace hB : Hid (But g w _) := But.trans hB.out (But.of_below hb4)
  clear hb4 c2 z2 HU
  go_wp2_with fail
  refine Lw.region_tail 11 (by kernel_rfl) (by kernel_rfl) ?_
  intro v5 hv5
  replace HV : Hid (_) := drew_row hv5 HV.out
  replace hB : Hid (But g w _) := But.trans hB.out (drew_but hv5)
  clear hv5
  have c1 : v5.cell? ⟨g, 1, none⟩ = some (.string Pb) := nine_cells HV.out 1 _ rfl
  have c3 : v5.cell? ⟨g, 3, none⟩ = some (.int .i64 (-1)) := nine_cells HV.out 3 _ rfl
  have z1 : v5.frozen? ⟨g, 1, none⟩ = false := frozen_of_row _ _ _ _ _ HV.out
  simp only [List.take_succ_cons, List.take_zero, List.drop_succ_cons, List.drop_zero]
  have hcat := fun W => run_cat Pb (ByteArray.mk #[Bm.sign ((c.toNat : Int) == 49)]) (by show _ + 1 ≤ _; omega) W
  rw [hb0] at hcat
  repeat (first | still_step | still_call (refBit_any _ _))
  refine wpStill_nil ?_
  clear hcat
  replace HV : Hid (_) := set1r HV.out (Pb ++ ByteArray.mk #[Bm.sign b])
  replace hB : Hid (But g w _) := But.trans hB.out (But.set g 1 (.string (Pb ++ ByteArray.mk #[Bm.sign b])) v5)
  rw [HPs.out] at HV hB ⊢
  clear HPs
  go_wp2_with fail
  refine (HPp.out _).mono ?_
  rintro e v6 ⟨rfl, hb6⟩
  replace HV : Hid (_) := block_on (Array.getElem?_eq_some_iff.1 HV.out).1 hb6 HV.out
  replace hB : Hid (But g w _) := But.trans hB.out (But.of_below hb6)
  clear hb6 c1 c3 z1 HPp
  go_wp2
  generalize hO : Obj.cells #[Value.bool x, Value.int IntKind.u32 (n : Int), Value.bool r, Value.string { data := d.toArray }] 35 (0, 0) = O at *
  have hb7 : Below v6.heap.size v6 (v6.alloc O) := (Below.refl v6.heap.size v6).alloc (Nat.le_refl _) O
  replace HV : Hid (_) := block_on (Array.getElem?_eq_some_iff.1 HV.out).1 hb7 HV.out
  replace hB : Hid (But g w _) := But.trans hB.out (But.of_below hb7)
  go_ret
  exact ⟨rfl, hB.out⟩
set_option maxRecDepth 100000 in
set_option maxHeartbeats 4000000 in
theorem next_more_none (g : Nat) (S : ByteArray) (hS : S.size ≤ 1000000) (p : List Bool) (R : List Bool) (c : UInt8) (w : World) (hR : R.length ≤ 1000000)  (hc : Sm.calm (0, false) R) (hp : p.length ≤ 1000000) (h5 : (Sm.run (0, false) R).1 ≠ 5) (h6 : (Sm.step (Sm.run (0, false) R) (Bm.isOne c)).1 ≠ 6) (he : (Fm.parse (p ++ [Bm.isOne c])).2.2 ≠ 12) (he0 : (Fm.parse (p ++ [Bm.isOne c])).2.2 ≠ 0)
    (hrow : w.heap[g]? = some (.cells (rcs S ⟨(Bm.row p).toArray⟩ ⟨(Bm.row R).toArray⟩ (-1) (-1) false 0 false ⟨#[]⟩) 89 (0, 0))) :
    Calls Tryz.prog 67 #[.pointer (some ⟨g, 0, none⟩), .int .u8 (c.toNat : Int)] w fun e w' => e = .returned (.int .i64 0) ∧ w'.heap[g]? = some (.cells (rcs (S ++ ByteArray.mk #[Bm.sign (Bm.isOne c)]) ⟨(Bm.row (p ++ [Bm.isOne c])).toArray⟩ ⟨(Bm.row (R ++ [Bm.isOne c])).toArray⟩ (-1) (-1) false 0 false ⟨#[]⟩) 89 (0, 0)) ∧ But g w w' := by
  have hb0 := Bm.isOne_dec c
  generalize Bm.isOne c = b at *
  have HN1 : Hid (∀ w, Calls Tryz.prog 95 #[.string ⟨(Bm.row R).toArray⟩] w fun e w' => e = .returned (.int .i64 (Sm.next R)) ∧ Below w.heap.size w w') := fun w => rnext_row R (by omega) w
  have HU : Hid (∀ w, Calls Tryz.prog 96 #[.string ⟨(Bm.row (R ++ [b])).toArray⟩] w fun e w' => e = .returned (.tuple #[.string ⟨(Bm.row (Sm.unstuff (R ++ [b])).1).toArray⟩, .int .i64 (Sm.unstuff (R ++ [b])).2]) ∧ Below w.heap.size w w') := fun w => run_row (R ++ [b]) (by rw [List.length_append]; simp only [List.length_cons, List.length_nil]; omega) w
  have HN2 : Hid (∀ w, Calls Tryz.prog 95 #[.string ⟨(Bm.row (R ++ [b])).toArray⟩] w fun e w' => e = .returned (.int .i64 (Sm.next (R ++ [b]))) ∧ Below w.heap.size w w') := fun w => rnext_row (R ++ [b]) (by rw [List.length_append]; simp only [List.length_cons, List.length_nil]; omega) w
  have HRs : Hid (_) := row_snoc R b
  have HPs : Hid (_) := row_snoc p b
  have sR := size_rowr R
  have sP := size_rowr p
  have sP2 : (ByteArray.mk (Bm.row (p ++ [b])).toArray).size = p.length + 1 := by rw [size_rowr, List.length_append]; rfl
  have hun : (Sm.unstuff (R ++ [b])).2 = -1 := by
    rcases un_at R hc b with ⟨h, _⟩ | ⟨_, h⟩
    · exact absurd h h6
    · exact h
  have hnx : Sm.next R < 0 := by
    rcases next_at R hc with ⟨h, _⟩ | ⟨_, h⟩
    · exact absurd h h5
    · exact h
  have hnxb : decide (0 ≤ Sm.next R) = false := by
    rw [decide_eq_false_iff_not]
    omega
  have HPp : Hid (∀ w, Calls Tryz.prog 97 #[.string ⟨(Bm.row (p ++ [b])).toArray⟩] w fun e w' => e = .returned (fv (Fm.parse (p ++ [b]))) ∧ Below w.heap.size w w') := fun w => rparse_row (p ++ [b]) (by rw [List.length_append]; simp only [List.length_cons, List.length_nil]; omega) w
  rcases hpp : Fm.parse (p ++ [b]) with ⟨⟨x, n, r, d⟩, nn, ec⟩
  rw [hpp] at HPp he he0
  replace he : ec ≠ 12 := he
  replace he0 : ec ≠ 0 := he0
  have hd1 : ((ec : Int) == 12) = false := by
    rw [beq_eq_false_iff_ne]
    omega
  have hd0 : ((ec : Int) == 0) = false := by
    rw [beq_eq_false_iff_ne]
    omega
  clear he he0
  unfold fv at HPp
  clear h5 h6 hc
  generalize ByteArray.mk (Bm.row (Sm.unstuff (R ++ [b])).1).toArray = UU at *
  generalize ByteArray.mk (Bm.row (R ++ [b])).toArray = RR at *
  generalize ByteArray.mk (Bm.row (p ++ [b])).toArray = PP at *
  generalize ByteArray.mk (Bm.row R).toArray = Rb at *
  generalize ByteArray.mk (Bm.row p).toArray = Pb at *
  generalize Sm.next R = nx at *
  generalize Sm.next (R ++ [b]) = nx2 at *
  generalize (Sm.unstuff (R ++ [b])).2 = un at *
  have hz : g < w.heap.size := (Array.getElem?_eq_some_iff.1 hrow).1
  have HV : Hid (_) := hrow
  have hB : Hid (But g w w) := But.refl g w
  clear hrow
  go_enter Tryz.func67, Tryz.ntmps67
  go_wp2_with fail
  refine Lw.region_tail 11 (by kernel_rfl) (by kernel_rfl) ?_
  intro v1 hv1
  replace HV : Hid (_) := drew_row hv1 HV.out
  replace hB : Hid (But g w _) := But.trans hB.out (drew_but hv1)
  clear hv1
  have c0 : v1.cell? ⟨g, 0, none⟩ = some (.string S) := nine_cells HV.out 0 _ rfl
  have c4 : v1.cell? ⟨g, 4, none⟩ = some (.int .i64 (-1)) := nine_cells HV.out 4 _ rfl
  have c2 : v1.cell? ⟨g, 2, none⟩ = some (.string Rb) := nine_cells HV.out 2 _ rfl
  have z0 : v1.frozen? ⟨g, 0, none⟩ = false := frozen_of_row _ _ _ _ _ HV.out
  simp only [List.take_succ_cons, List.take_zero, List.drop_succ_cons, List.drop_zero]
  have hcat := fun W => run_cat S (ByteArray.mk #[Bm.sign ((c.toNat : Int) == 49)]) (by show _ + 1 ≤ _; omega) W
  rw [hb0] at hcat
  repeat (first | still_step | still_call (refBit_any _ _))
  refine wpStill_nil ?_
  clear hcat
  replace HV : Hid (_) := set0 HV.out (S ++ ByteArray.mk #[Bm.sign b])
  replace hB : Hid (But g w _) := But.trans hB.out (But.set g 0 (.string (S ++ ByteArray.mk #[Bm.sign b])) v1)
  go_wp2_with fail
  refine (HN1.out _).mono ?_
  rintro e v2 ⟨rfl, hb2⟩
  replace HV : Hid (_) := block_on (Array.getElem?_eq_some_iff.1 HV.out).1 hb2 HV.out
  replace hB : Hid (But g w _) := But.trans hB.out (But.of_below hb2)
  clear hb2 c0 c2 c4 z0 HN1
  go_wp2_with fail
  refine Lw.region_tail 11 (by kernel_rfl) (by kernel_rfl) ?_
  intro v3 hv3
  replace HV : Hid (_) := drew_row hv3 HV.out
  replace hB : Hid (But g w _) := But.trans hB.out (drew_but hv3)
  clear hv3
  have c2 : v3.cell? ⟨g, 2, none⟩ = some (.string Rb) := nine_cells HV.out 2 _ rfl
  have z2 : v3.frozen? ⟨g, 2, none⟩ = false := frozen_of_row _ _ _ _ _ HV.out
  simp only [List.take_succ_cons, List.take_zero, List.drop_succ_cons, List.drop_zero]
  have hcat := fun W => run_cat Rb (ByteArray.mk #[Bm.sign ((c.toNat : Int) == 49)]) (by show _ + 1 ≤ _; omega) W
  rw [hb0] at hcat
  repeat (first | still_step | still_call (refBit_any _ _))
  refine wpStill_nil ?_
  clear hcat
  replace HV : Hid (_) := set2r HV.out (Rb ++ ByteArray.mk #[Bm.sign b])
  replace hB : Hid (But g w _) := But.trans hB.out (But.set g 2 (.string (Rb ++ ByteArray.mk #[Bm.sign b])) v3)
  rw [HRs.out] at HV hB ⊢
  go_wp2_with fail
  refine (HU.out _).mono ?_
  rintro e v4 ⟨rfl, hb4⟩
  replace HV : Hid (_) := block_on (Array.getElem?_eq_some_iff.1 HV.out).1 hb4 HV.out
  replace hB : Hid (But g w _) := But.trans hB.out (But.of_below hb4)
  clear hb4 c2 z2 HU
  go_wp2_with fail
  refine Lw.region_tail 11 (by kernel_rfl) (by kernel_rfl) ?_
  intro v5 hv5
  replace HV : Hid (_) := drew_row hv5 HV.out
  replace hB : Hid (But g w _) := But.trans hB.out (drew_but hv5)
  clear hv5
  have c1 : v5.cell? ⟨g, 1, none⟩ = some (.string Pb) := nine_cells HV.out 1 _ rfl
  have c3 : v5.cell? ⟨g, 3, none⟩ = some (.int .i64 (-1)) := nine_cells HV.out 3 _ rfl
  have z1 : v5.frozen? ⟨g, 1, none⟩ = false := frozen_of_row _ _ _ _ _ HV.out
  simp only [List.take_succ_cons, List.take_zero, List.drop_succ_cons, List.drop_zero]
  have hcat := fun W => run_cat Pb (ByteArray.mk #[Bm.sign ((c.toNat : Int) == 49)]) (by show _ + 1 ≤ _; omega) W
  rw [hb0] at hcat
  repeat (first | still_step | still_call (refBit_any _ _))
  refine wpStill_nil ?_
  clear hcat
  replace HV : Hid (_) := set1r HV.out (Pb ++ ByteArray.mk #[Bm.sign b])
  replace hB : Hid (But g w _) := But.trans hB.out (But.set g 1 (.string (Pb ++ ByteArray.mk #[Bm.sign b])) v5)
  rw [HPs.out] at HV hB ⊢
  clear HPs
  go_wp2_with fail
  refine (HPp.out _).mono ?_
  rintro e v6 ⟨rfl, hb6⟩
  replace HV : Hid (_) := block_on (Array.getElem?_eq_some_iff.1 HV.out).1 hb6 HV.out
  replace hB : Hid (But g w _) := But.trans hB.out (But.of_below hb6)
  clear hb6 c1 c3 z1 HPp
  go_wp2_with fail
  generalize hO : Obj.cells #[Value.bool x, Value.int IntKind.u32 (n : Int), Value.bool r, Value.string { data := d.toArray }] 35 (0, 0) = O at *
  have hb7 : Below v6.heap.size v6 (v6.alloc O) := (Below.refl v6.heap.size v6).alloc (Nat.le_refl _) O
  replace HV : Hid (_) := block_on (Array.getElem?_eq_some_iff.1 HV.out).1 hb7 HV.out
  replace hB : Hid (But g w _) := But.trans hB.out (But.of_below hb7)
  generalize v6.alloc O = v7 at *
  have HF : Hid (∀ w', Below v7.heap.size v7 w' → ∀ (k : Nat) (yy : Value), (rcs (S ++ ByteArray.mk #[Bm.sign b]) PP RR (-1) (-1) false 0 false ⟨#[]⟩)[k]? = some yy → w'.cell? ⟨g, k, none⟩ = some yy) := fun w' hb k yy hx => (hb.cell (p := ⟨g, k, none⟩) (Array.getElem?_eq_some_iff.1 HV.out).1).trans (nine_cells HV.out k yy hx)
  unfold rcs at HF
  refine Lw.wp_region_quiet_below (by kernel_rfl) (by kernel_rfl) ?_
  repeat (first
    | go_big_quiet_skip
    | (go_big_quiet_want; go_big_quiet_op; go_big_quiet_on)
    | (go_big_quiet_want; go_big_quiet_op; apply Exists.intro; refine ⟨fun _ hb' => ?_, ?_⟩; (first
      | exact Lw.val_rfl _
      | (go_at_call 95; exact Lw.calls_below hb' (HN2.out _))
      | (simp [go_sem, HF.out _ hb' 1 _ rfl]; rfl)
      | (simp [go_sem, HF.out _ hb' 2 _ rfl]; rfl)
      | (simp [go_sem, HF.out _ hb' 3 _ rfl]; rfl)); go_big_quiet_on))
  refine wpQuiet_nil ?_
  intro v9 hb9
  replace HV : Hid (_) := block_on (Array.getElem?_eq_some_iff.1 HV.out).1 hb9 HV.out
  replace hB : Hid (But g w _) := But.trans hB.out (But.of_below hb9)
  clear hb9 HF HN2
  go_wp2
  go_ret
  exact ⟨rfl, HV.out, hB.out⟩
set_option maxRecDepth 100000 in
set_option maxHeartbeats 4000000 in
theorem next_more_learn (g : Nat) (S : ByteArray) (hS : S.size ≤ 1000000) (p : List Bool) (R : List Bool) (c : UInt8) (w : World) (hR : R.length ≤ 1000000)  (hc : Sm.calm (0, false) R) (hp : p.length ≤ 1000000) (h5 : (Sm.run (0, false) R).1 ≠ 5) (h6 : (Sm.step (Sm.run (0, false) R) (Bm.isOne c)).1 ≠ 6) (he : (Fm.parse (p ++ [Bm.isOne c])).2.2 = 0) (hnn : (Fm.parse (p ++ [Bm.isOne c])).2.1 ≤ 1000000)
    (hrow : w.heap[g]? = some (.cells (rcs S ⟨(Bm.row p).toArray⟩ ⟨(Bm.row R).toArray⟩ (-1) (-1) false 0 false ⟨#[]⟩) 89 (0, 0))) :
    Calls Tryz.prog 67 #[.pointer (some ⟨g, 0, none⟩), .int .u8 (c.toNat : Int)] w fun e w' => e = .returned (.int .i64 0) ∧ w'.heap[g]? = some (.cells (rcs (S ++ ByteArray.mk #[Bm.sign (Bm.isOne c)]) ⟨(Bm.row (p ++ [Bm.isOne c])).toArray⟩ ⟨(Bm.row (R ++ [Bm.isOne c])).toArray⟩ ((Fm.parse (p ++ [Bm.isOne c])).2.1 : Int) (if p.length + 1 = (Fm.parse (p ++ [Bm.isOne c])).2.1 + 15 ∧ (Sm.step (Sm.run (0, false) R) (Bm.isOne c)).1 ≠ 5 then (0 : Int) else -1) (Fm.parse (p ++ [Bm.isOne c])).1.1 (Fm.parse (p ++ [Bm.isOne c])).1.2.1 (Fm.parse (p ++ [Bm.isOne c])).1.2.2.1 ⟨(Fm.parse (p ++ [Bm.isOne c])).1.2.2.2.toArray⟩) 89 (0, 0)) ∧ But g w w' := by
  have hb0 := Bm.isOne_dec c
  generalize Bm.isOne c = b at *
  have HN1 : Hid (∀ w, Calls Tryz.prog 95 #[.string ⟨(Bm.row R).toArray⟩] w fun e w' => e = .returned (.int .i64 (Sm.next R)) ∧ Below w.heap.size w w') := fun w => rnext_row R (by omega) w
  have HU : Hid (∀ w, Calls Tryz.prog 96 #[.string ⟨(Bm.row (R ++ [b])).toArray⟩] w fun e w' => e = .returned (.tuple #[.string ⟨(Bm.row (Sm.unstuff (R ++ [b])).1).toArray⟩, .int .i64 (Sm.unstuff (R ++ [b])).2]) ∧ Below w.heap.size w w') := fun w => run_row (R ++ [b]) (by rw [List.length_append]; simp only [List.length_cons, List.length_nil]; omega) w
  have HN2 : Hid (∀ w, Calls Tryz.prog 95 #[.string ⟨(Bm.row (R ++ [b])).toArray⟩] w fun e w' => e = .returned (.int .i64 (Sm.next (R ++ [b]))) ∧ Below w.heap.size w w') := fun w => rnext_row (R ++ [b]) (by rw [List.length_append]; simp only [List.length_cons, List.length_nil]; omega) w
  have HRs : Hid (_) := row_snoc R b
  have HPs : Hid (_) := row_snoc p b
  have sR := size_rowr R
  have sP := size_rowr p
  have sP2 : (ByteArray.mk (Bm.row (p ++ [b])).toArray).size = p.length + 1 := by rw [size_rowr, List.length_append]; rfl
  have hun : (Sm.unstuff (R ++ [b])).2 = -1 := by
    rcases un_at R hc b with ⟨h, _⟩ | ⟨_, h⟩
    · exact absurd h h6
    · exact h
  have hnx : Sm.next R < 0 := by
    rcases next_at R hc with ⟨h, _⟩ | ⟨_, h⟩
    · exact absurd h h5
    · exact h
  have hnxb : decide (0 ≤ Sm.next R) = false := by
    rw [decide_eq_false_iff_not]
    omega
  have HPp : Hid (∀ w, Calls Tryz.prog 97 #[.string ⟨(Bm.row (p ++ [b])).toArray⟩] w fun e w' => e = .returned (fv (Fm.parse (p ++ [b]))) ∧ Below w.heap.size w w') := fun w => rparse_row (p ++ [b]) (by rw [List.length_append]; simp only [List.length_cons, List.length_nil]; omega) w
  rcases hpp : Fm.parse (p ++ [b]) with ⟨⟨x, n, r, d⟩, nn, ec⟩
  rw [hpp] at HPp he hnn
  dsimp only at hnn ⊢
  replace he : ec = _ := he
  subst he
  unfold fv at HPp
  have htl : ((p.length + 1 = nn + 15 ∧ Sm.next (R ++ [b]) < 0) ∧ (if p.length + 1 = nn + 15 ∧ (Sm.step (Sm.run (0, false) R) b).1 ≠ 5 then (0 : Int) else -1) = 0) ∨ (¬ (p.length + 1 = nn + 15 ∧ Sm.next (R ++ [b]) < 0) ∧ (if p.length + 1 = nn + 15 ∧ (Sm.step (Sm.run (0, false) R) b).1 ≠ 5 then (0 : Int) else -1) = -1) := by
    have h := next_at (R ++ [b]) (calm_snoc R hc b h6)
    rw [run_snoc] at h
    by_cases hl : p.length + 1 = nn + 15
    · rcases h with ⟨h, h'⟩ | ⟨h, h'⟩
      · right
        exact ⟨fun k => by omega, if_neg (fun k => k.2 h)⟩
      · left
        exact ⟨⟨hl, h'⟩, if_pos ⟨hl, h⟩⟩
    · right
      exact ⟨fun k => hl k.1, if_neg (fun k => hl k.1)⟩
  generalize (if p.length + 1 = nn + 15 ∧ (Sm.step (Sm.run (0, false) R) b).1 ≠ 5 then (0 : Int) else -1) = tl at *
  clear h5 h6 hc
  generalize ByteArray.mk (Bm.row (Sm.unstuff (R ++ [b])).1).toArray = UU at *
  generalize ByteArray.mk (Bm.row (R ++ [b])).toArray = RR at *
  generalize ByteArray.mk (Bm.row (p ++ [b])).toArray = PP at *
  generalize ByteArray.mk (Bm.row R).toArray = Rb at *
  generalize ByteArray.mk (Bm.row p).toArray = Pb at *
  generalize Sm.next R = nx at *
  generalize Sm.next (R ++ [b]) = nx2 at *
  generalize (Sm.unstuff (R ++ [b])).2 = un at *
  have hz : g < w.heap.size := (Array.getElem?_eq_some_iff.1 hrow).1
  have HV : Hid (_) := hrow
  have hB : Hid (But g w w) := But.refl g w
  clear hrow
  go_enter Tryz.func67, Tryz.ntmps67
  go_wp2_with fail
  refine Lw.region_tail 11 (by kernel_rfl) (by kernel_rfl) ?_
  intro v1 hv1
  replace HV : Hid (_) := drew_row hv1 HV.out
  replace hB : Hid (But g w _) := But.trans hB.out (drew_but hv1)
  clear hv1
  have c0 : v1.cell? ⟨g, 0, none⟩ = some (.string S) := nine_cells HV.out 0 _ rfl
  have c4 : v1.cell? ⟨g, 4, none⟩ = some (.int .i64 (-1)) := nine_cells HV.out 4 _ rfl
  have c2 : v1.cell? ⟨g, 2, none⟩ = some (.string Rb) := nine_cells HV.out 2 _ rfl
  have z0 : v1.frozen? ⟨g, 0, none⟩ = false := frozen_of_row _ _ _ _ _ HV.out
  simp only [List.take_succ_cons, List.take_zero, List.drop_succ_cons, List.drop_zero]
  have hcat := fun W => run_cat S (ByteArray.mk #[Bm.sign ((c.toNat : Int) == 49)]) (by show _ + 1 ≤ _; omega) W
  rw [hb0] at hcat
  repeat (first | still_step | still_call (refBit_any _ _))
  refine wpStill_nil ?_
  clear hcat
  replace HV : Hid (_) := set0 HV.out (S ++ ByteArray.mk #[Bm.sign b])
  replace hB : Hid (But g w _) := But.trans hB.out (But.set g 0 (.string (S ++ ByteArray.mk #[Bm.sign b])) v1)
  go_wp2_with fail
  refine (HN1.out _).mono ?_
  rintro e v2 ⟨rfl, hb2⟩
  replace HV : Hid (_) := block_on (Array.getElem?_eq_some_iff.1 HV.out).1 hb2 HV.out
  replace hB : Hid (But g w _) := But.trans hB.out (But.of_below hb2)
  clear hb2 c0 c2 c4 z0 HN1
  go_wp2_with fail
  refine Lw.region_tail 11 (by kernel_rfl) (by kernel_rfl) ?_
  intro v3 hv3
  replace HV : Hid (_) := drew_row hv3 HV.out
  replace hB : Hid (But g w _) := But.trans hB.out (drew_but hv3)
  clear hv3
  have c2 : v3.cell? ⟨g, 2, none⟩ = some (.string Rb) := nine_cells HV.out 2 _ rfl
  have z2 : v3.frozen? ⟨g, 2, none⟩ = false := frozen_of_row _ _ _ _ _ HV.out
  simp only [List.take_succ_cons, List.take_zero, List.drop_succ_cons, List.drop_zero]
  have hcat := fun W => run_cat Rb (ByteArray.mk #[Bm.sign ((c.toNat : Int) == 49)]) (by show _ + 1 ≤ _; omega) W
  rw [hb0] at hcat
  repeat (first | still_step | still_call (refBit_any _ _))
  refine wpStill_nil ?_
  clear hcat
  replace HV : Hid (_) := set2r HV.out (Rb ++ ByteArray.mk #[Bm.sign b])
  replace hB : Hid (But g w _) := But.trans hB.out (But.set g 2 (.string (Rb ++ ByteArray.mk #[Bm.sign b])) v3)
  rw [HRs.out] at HV hB ⊢
  go_wp2_with fail
  refine (HU.out _).mono ?_
  rintro e v4 ⟨rfl, hb4⟩
  replace HV : Hid (_) := block_on (Array.getElem?_eq_some_iff.1 HV.out).1 hb4 HV.out
  replace hB : Hid (But g w _) := But.trans hB.out (But.of_below hb4)
  clear hb4 c2 z2 HU
  go_wp2_with fail
  refine Lw.region_tail 11 (by kernel_rfl) (by kernel_rfl) ?_
  intro v5 hv5
  replace HV : Hid (_) := drew_row hv5 HV.out
  replace hB : Hid (But g w _) := But.trans hB.out (drew_but hv5)
  clear hv5
  have c1 : v5.cell? ⟨g, 1, none⟩ = some (.string Pb) := nine_cells HV.out 1 _ rfl
  have c3 : v5.cell? ⟨g, 3, none⟩ = some (.int .i64 (-1)) := nine_cells HV.out 3 _ rfl
  have z1 : v5.frozen? ⟨g, 1, none⟩ = false := frozen_of_row _ _ _ _ _ HV.out
  simp only [List.take_succ_cons, List.take_zero, List.drop_succ_cons, List.drop_zero]
  have hcat := fun W => run_cat Pb (ByteArray.mk #[Bm.sign ((c.toNat : Int) == 49)]) (by show _ + 1 ≤ _; omega) W
  rw [hb0] at hcat
  repeat (first | still_step | still_call (refBit_any _ _))
  refine wpStill_nil ?_
  clear hcat
  replace HV : Hid (_) := set1r HV.out (Pb ++ ByteArray.mk #[Bm.sign b])
  replace hB : Hid (But g w _) := But.trans hB.out (But.set g 1 (.string (Pb ++ ByteArray.mk #[Bm.sign b])) v5)
  rw [HPs.out] at HV hB ⊢
  clear HPs
  go_wp2_with fail
  refine (HPp.out _).mono ?_
  rintro e v6 ⟨rfl, hb6⟩
  replace HV : Hid (_) := block_on (Array.getElem?_eq_some_iff.1 HV.out).1 hb6 HV.out
  replace hB : Hid (But g w _) := But.trans hB.out (But.of_below hb6)
  clear hb6 c1 c3 z1 HPp
  have z3 : v6.frozen? ⟨g, 3, none⟩ = false := frozen_of_row _ _ _ _ _ HV.out
  have z5 : v6.frozen? ⟨g, 5, none⟩ = false := frozen_of_row _ _ _ _ _ HV.out
  have z6 : v6.frozen? ⟨g, 6, none⟩ = false := frozen_of_row _ _ _ _ _ HV.out
  have z7 : v6.frozen? ⟨g, 7, none⟩ = false := frozen_of_row _ _ _ _ _ HV.out
  have z8 : v6.frozen? ⟨g, 8, none⟩ = false := frozen_of_row _ _ _ _ _ HV.out
  have c3 : v6.cell? ⟨g, 3, none⟩ = some (.int .i64 (-1)) := nine_cells HV.out 3 _ rfl
  have c5 : v6.cell? ⟨g, 5, none⟩ = some (.bool false) := nine_cells HV.out 5 _ rfl
  have c6 : v6.cell? ⟨g, 6, none⟩ = some (.int .u32 0) := nine_cells HV.out 6 _ rfl
  have c7 : v6.cell? ⟨g, 7, none⟩ = some (.bool false) := nine_cells HV.out 7 _ rfl
  have c8 : v6.cell? ⟨g, 8, none⟩ = some (.string ⟨#[]⟩) := nine_cells HV.out 8 _ rfl
  have hg6 : g < v6.heap.size := (Array.getElem?_eq_some_iff.1 HV.out).1
  go_wp2_with fail
  clear z3 z5 z6 z7 z8 c3 c5 c6 c7 c8
  replace HV : Hid (_) := set3r (set8r (set7r (set6r (set5r HV.out x) n) r) ⟨d.toArray⟩) (nn : Int)
  replace hB : Hid (But g w _) := But.trans (But.trans (But.trans (But.trans (But.trans hB.out (But.set g 5 (.bool x) _)) (But.set g 6 (.int .u32 (n : Int)) _)) (But.set g 7 (.bool r) _)) (But.set g 8 (.string ⟨d.toArray⟩) _)) (But.set g 3 (.int .i64 (nn : Int)) _)
  have hz7 : v6.heap.size = (((((v6.setCell ⟨g, 5, none⟩ (.bool x)).setCell ⟨g, 6, none⟩ (.int .u32 (n : Int))).setCell ⟨g, 7, none⟩ (.bool r)).setCell ⟨g, 8, none⟩ (.string ⟨d.toArray⟩)).setCell ⟨g, 3, none⟩ (.int .i64 (nn : Int))).heap.size := by simp
  rw [hz7]
  generalize ((((v6.setCell ⟨g, 5, none⟩ (.bool x)).setCell ⟨g, 6, none⟩ (.int .u32 (n : Int))).setCell ⟨g, 7, none⟩ (.bool r)).setCell ⟨g, 8, none⟩ (.string ⟨d.toArray⟩)).setCell ⟨g, 3, none⟩ (.int .i64 (nn : Int)) = v7 at *
  clear hz7 hg6
  generalize hO : Obj.cells #[Value.bool x, Value.int IntKind.u32 (n : Int), Value.bool r, Value.string { data := d.toArray }] 35 (0, 0) = O at *
  have hb7 : Below v7.heap.size v7 (v7.alloc O) := (Below.refl v7.heap.size v7).alloc (Nat.le_refl _) O
  replace HV : Hid (_) := block_on (Array.getElem?_eq_some_iff.1 HV.out).1 hb7 HV.out
  replace hB : Hid (But g w _) := But.trans hB.out (But.of_below hb7)
  generalize v7.alloc O = v8 at *
  have HF : Hid (∀ w', Below v8.heap.size v8 w' → ∀ (k : Nat) (yy : Value), (rcs (S ++ ByteArray.mk #[Bm.sign b]) PP RR (nn : Int) (-1) x n r ⟨d.toArray⟩)[k]? = some yy → w'.cell? ⟨g, k, none⟩ = some yy) := fun w' hb k yy hx => (hb.cell (p := ⟨g, k, none⟩) (Array.getElem?_eq_some_iff.1 HV.out).1).trans (nine_cells HV.out k yy hx)
  unfold rcs at HF
  have hln : PP.size = p.length + 1 := by omega
  clear sP sP2
  by_cases hl : PP.size = nn + 15
  · skip
    have hl3 : p.length + 1 = nn + 15 := by omega
    clear hln
    refine Lw.wp_region_quiet_below (by kernel_rfl) (by kernel_rfl) ?_
    repeat (first
      | go_big_quiet_skip
      | (go_big_quiet_want; go_big_quiet_op; go_big_quiet_on)
      | (go_big_quiet_want; go_big_quiet_op; apply Exists.intro; refine ⟨fun _ hb' => ?_, ?_⟩; (first
        | exact Lw.val_rfl _
        | (go_at_call 95; exact Lw.calls_below hb' (HN2.out _))
        | (simp [go_sem, HF.out _ hb' 1 _ rfl]; rfl)
        | (simp [go_sem, HF.out _ hb' 2 _ rfl]; rfl)
        | (simp [go_sem, HF.out _ hb' 3 _ rfl]; rfl)); go_big_quiet_on))
    refine wpQuiet_nil ?_
    intro v9 hb9
    replace HV : Hid (_) := block_on (Array.getElem?_eq_some_iff.1 HV.out).1 hb9 HV.out
    replace hB : Hid (But g w _) := But.trans hB.out (But.of_below hb9)
    clear hb9 HF HN2
    rcases htl with ⟨⟨_, hn⟩, rfl⟩ | ⟨hn, rfl⟩
    · skip
      have z4 : v9.frozen? ⟨g, 4, none⟩ = false := frozen_of_row _ _ _ _ _ HV.out
      have c4 : v9.cell? ⟨g, 4, none⟩ = some (.int .i64 (-1)) := nine_cells HV.out 4 _ rfl
      go_wp2
      go_ret
      exact ⟨rfl, set4 HV.out 0, But.trans hB.out (But.set g 4 (.int .i64 0) v9)⟩
    · skip
      have hn2 : ¬ nx2 < 0 := fun k => hn ⟨hl3, k⟩
      go_wp2
      go_ret
      exact ⟨rfl, HV.out, hB.out⟩
  · skip
    have htl0 : tl = -1 := by
      rcases htl with ⟨⟨h, _⟩, _⟩ | ⟨_, h⟩
      · omega
      · exact h
    subst htl0
    clear hln
    have hl1 : ((PP.size : Int) == (nn : Int) + 15) = false := by
      rw [beq_eq_false_iff_ne]
      omega
    refine Lw.wp_region_quiet_below (by kernel_rfl) (by kernel_rfl) ?_
    repeat (first
      | go_big_quiet_skip
      | (go_big_quiet_want; go_big_quiet_op; go_big_quiet_on)
      | (go_big_quiet_want; go_big_quiet_op; apply Exists.intro; refine ⟨fun _ hb' => ?_, ?_⟩; (first
        | exact Lw.val_rfl _
        | (go_at_call 95; exact Lw.calls_below hb' (HN2.out _))
        | (simp [go_sem, HF.out _ hb' 1 _ rfl]; rfl)
        | (simp [go_sem, HF.out _ hb' 2 _ rfl]; rfl)
        | (simp [go_sem, HF.out _ hb' 3 _ rfl]; rfl)); go_big_quiet_on))
    refine wpQuiet_nil ?_
    intro v9 hb9
    replace HV : Hid (_) := block_on (Array.getElem?_eq_some_iff.1 HV.out).1 hb9 HV.out
    replace hB : Hid (But g w _) := But.trans hB.out (But.of_below hb9)
    clear hb9 HF HN2
    go_wp2
    go_ret
    exact ⟨rfl, HV.out, hB.out⟩
end Go.Proofs.YthkaekpoicodeaaGreatDoor
/- The document's own reader of frames: what Next answers, at every place, as the plain mathematics say it. -/
namespace Go.Proofs.YthkaekpoicodeaaGreatDoor
open Go.RowKit
theorem parse_le (bs : List Bool) : (Fm.parse bs).2.1 ≤ bs.length := by
  have hd : ∀ x n r p k, (Fm.parseD bs x n r p k).2.1 ≤ bs.length := by
    intro x n r p k
    unfold Fm.parseD
    split
    · exact Nat.zero_le _
    · dsimp only; omega
  have hl : ∀ x n r p, (Fm.parseL bs x n r p).2.1 ≤ bs.length := by
    intro x n r p
    unfold Fm.parseL
    split
    · exact Nat.zero_le _
    · exact hd _ _ _ _ _
  unfold Fm.parse
  repeat' split
  all_goals first | exact Nat.zero_le _ | exact hl _ _ _ _
/-- What holds of a reader ahead of a bit. -/
structure Inv (s : Cm.Rd) (R : List Bool) (k : Nat) : Prop where
  run : s.t = none → s.r = Sm.run (0, false) R
  calm : s.t = none → Sm.calm (0, false) R
  lenR : R.length ≤ k
  lenp : s.p.length ≤ k
  lenw : ∀ f n, s.w = some (f, n) → n ≤ k
  tail : ∀ t, s.t = some t → t < 10 ∧ ∃ f n, s.w = some (f, n) ∧ s.p.length = n + 15
theorem inv_new : Inv Cm.Rd.new [] 0 :=
  ⟨fun _ => rfl, fun _ k => (by rw [List.take_nil]; exact Nat.zero_le _), Nat.le_refl _, Nat.le_refl _, fun _ _ h => (by cases h), fun _ h => (by cases h)⟩
theorem inv_in {R : List Bool} {k : Nat} {b : Bool} {p : List Bool} {wn : Option (Cm.Fr × Nat)} (hc : Sm.calm (0, false) R) (h6 : (Sm.step (Sm.run (0, false) R) b).1 ≠ 6) (hR : R.length ≤ k) (hp : p.length ≤ k + 1) (hw : ∀ f n, wn = some (f, n) → n ≤ k + 1) :
    Inv ⟨Sm.step (Sm.run (0, false) R) b, p, wn, if Cm.lies p wn = true ∧ (Sm.step (Sm.run (0, false) R) b).1 ≠ 5 then some 0 else none⟩ (R ++ [b]) (k + 1) := by
  refine ⟨fun _ => (run_snoc R b).symm, fun _ => calm_snoc R hc b h6, by rw [List.length_append]; simp only [List.length_cons, List.length_nil]; omega, hp, hw, ?_⟩
  intro t ht
  dsimp only at ht ⊢
  split at ht
  · rename_i h
    cases ht
    refine ⟨by decide, ?_⟩
    cases wn with
    | none => cases h.1
    | some fn => exact ⟨fn.1, fn.2, rfl, of_decide_eq_true h.1⟩
  · cases ht
theorem tl_none (p : List Bool) (A : Prop) [Decidable A] : tailI (if Cm.lies p none = true ∧ A then some 0 else none) = -1 := by
  rw [if_neg (fun k => by cases k.1)]; rfl
theorem tl_some (p : List Bool) (f : Cm.Fr) (nn : Nat) (A : Prop) [Decidable A] : tailI (if Cm.lies p (some (f, nn)) = true ∧ A then some 0 else none) = if p.length = nn + 15 ∧ A then 0 else -1 := by
  by_cases h : p.length = nn + 15 ∧ A
  · rw [if_pos h, if_pos ⟨decide_eq_true h.1, h.2⟩]; rfl
  · rw [if_neg h, if_neg (fun k => h ⟨of_decide_eq_true k.1, k.2⟩)]; rfl
theorem bit_behind (q : Nat × Bool) (p : List Bool) (f : Cm.Fr) (nn t : Nat) (b : Bool) : Cm.bit ⟨q, p, some (f, nn), some t⟩ b = (behindCode (Cm.right p nn) t b, ⟨q, p, some (f, nn), some (t + 1)⟩) := by
  show Cm.behind _ t _ = _
  unfold Cm.behind behindCode
  dsimp only
  split
  · rfl
  · split
    · rfl
    · split
      · rfl
      · rfl
theorem behind_zero {ok : Bool} {t : Nat} {b : Bool} (h : behindCode ok t b = 0) (ht : t < 10) : t + 1 < 10 := by
  unfold behindCode at h
  split at h
  · cases h
  · split at h
    · cases h
    · split at h
      · cases h
      · omega
theorem next_bit (g : Nat) (S : ByteArray) (hS0 : S.size < 1000000) (s : Cm.Rd) (R : List Bool) (c : UInt8) (w : World) (hI : Inv s R S.size)
    (hrow : w.heap[g]? = some (.cells (rdc S s R) 89 (0, 0))) :
    Calls Tryz.prog 67 #[.pointer (some ⟨g, 0, none⟩), .int .u8 (c.toNat : Int)] w fun e w' => e = .returned (.int .i64 ((Cm.bit s (Bm.isOne c)).1 : Int)) ∧
      ((Cm.bit s (Bm.isOne c)).1 ≤ 1 → ∃ R', w'.heap[g]? = some (.cells (rdc (S ++ ByteArray.mk #[Bm.sign (Bm.isOne c)]) (Cm.bit s (Bm.isOne c)).2 R') 89 (0, 0)) ∧ ((Cm.bit s (Bm.isOne c)).1 = 0 → Inv (Cm.bit s (Bm.isOne c)).2 R' (S.size + 1))) ∧ But g w w' := by
  have hS : S.size ≤ 1000000 := Nat.le_of_lt hS0
  obtain ⟨q, p, wn, t⟩ := s
  have hR := hI.lenR
  have hp : p.length ≤ S.size := hI.lenp
  cases t with
  | some t =>
    obtain ⟨ht, f, nn, hw, hl⟩ := hI.tail t rfl
    dsimp only at hw hl
    subst hw
    rw [bit_behind]
    refine (next_behind g S hS q p f nn t R c w ht hl (by omega) hrow).mono ?_
    rintro e w' ⟨rfl, h1, h2⟩
    refine ⟨rfl, fun _ => ⟨R, h1, fun h0 => ⟨fun h => (by cases h), fun h => (by cases h), (by omega), ?_, fun f' n' h => ?_, fun t' h => ?_⟩⟩, h2⟩
    · show p.length ≤ _
      omega
    · have := hI.lenw f' n' h
      omega
    · cases h
      exact ⟨behind_zero h0 ht, f, nn, rfl, hl⟩
  | none =>
    have hq : q = _ := hI.run rfl
    subst hq
    have hc := hI.calm rfl
    have hlen : ∀ b : Bool, (p ++ [b]).length = p.length + 1 := fun b => by rw [List.length_append]; rfl
    by_cases h6 : (Sm.step (Sm.run (0, false) R) (Bm.isOne c)).1 = 6
    · have hb : Cm.bit ⟨Sm.run (0, false) R, p, wn, none⟩ (Bm.isOne c) = (20, ⟨Sm.step (Sm.run (0, false) R) (Bm.isOne c), p, wn, none⟩) := by
        show Cm.within _ _ = _
        unfold Cm.within
        rw [if_pos h6]
      rw [hb]
      cases wn with
      | none =>
        refine (next_six_none g S hS p R c w (by omega) hc h6 hrow).mono ?_
        rintro e w' ⟨rfl, h2⟩
        exact ⟨rfl, fun h => absurd h (by show ¬ (20 : Nat) ≤ 1; decide), h2⟩
      | some fn =>
        obtain ⟨⟨x, n, r, d⟩, nn⟩ := fn
        refine (next_six_some g S hS p R c w (by omega) nn x n r ⟨d.toArray⟩ hc h6 hrow).mono ?_
        rintro e w' ⟨rfl, h2⟩
        exact ⟨rfl, fun h => absurd h (by show ¬ (20 : Nat) ≤ 1; decide), h2⟩
    · by_cases h5 : (Sm.run (0, false) R).1 = 5
      · have hb : Cm.bit ⟨Sm.run (0, false) R, p, wn, none⟩ (Bm.isOne c) = (0, ⟨Sm.step (Sm.run (0, false) R) (Bm.isOne c), p, wn, if Cm.lies p wn = true ∧ (Sm.step (Sm.run (0, false) R) (Bm.isOne c)).1 ≠ 5 then some 0 else none⟩) := by
          show Cm.within _ _ = _
          unfold Cm.within
          rw [if_neg h6, if_pos h5]
        rw [hb]
        have hi : Inv _ (R ++ [Bm.isOne c]) (S.size + 1) := inv_in (p := p) (wn := wn) hc h6 hR (by omega) (fun f n h => by have := hI.lenw f n h; omega)
        cases wn with
        | none =>
          refine (next_laid_none g S hS p R c w (by omega) hc h5 h6 hrow).mono ?_
          rintro e w' ⟨rfl, h1, h2⟩
          refine ⟨rfl, fun _ => ⟨_, ?_, fun _ => hi⟩, h2⟩
          unfold rdc
          dsimp only
          rw [tl_none]
          exact h1
        | some fn =>
          obtain ⟨⟨x, n, r, d⟩, nn⟩ := fn
          have hn := hI.lenw _ nn rfl
          refine (next_laid_some g S hS p R c w (by omega) nn (by omega) x n r ⟨d.toArray⟩ hc h5 h6 hrow).mono ?_
          rintro e w' ⟨rfl, h1, h2⟩
          refine ⟨rfl, fun _ => ⟨_, ?_, fun _ => hi⟩, h2⟩
          unfold rdc
          dsimp only
          rw [tl_some]
          exact h1
      · cases wn with
        | some fn =>
          have hb : Cm.bit ⟨Sm.run (0, false) R, p, some fn, none⟩ (Bm.isOne c) = (0, ⟨Sm.step (Sm.run (0, false) R) (Bm.isOne c), p ++ [Bm.isOne c], some fn, if Cm.lies (p ++ [Bm.isOne c]) (some fn) = true ∧ (Sm.step (Sm.run (0, false) R) (Bm.isOne c)).1 ≠ 5 then some 0 else none⟩) := by
            show Cm.within _ _ = _
            unfold Cm.within
            rw [if_neg h6, if_neg h5]
            rfl
          rw [hb]
          have hi : Inv _ (R ++ [Bm.isOne c]) (S.size + 1) := inv_in (p := p ++ [Bm.isOne c]) (wn := some fn) hc h6 hR (by rw [hlen]; omega) (fun f n h => by have := hI.lenw f n h; omega)
          obtain ⟨⟨x, n, r, d⟩, nn⟩ := fn
          have hn := hI.lenw _ nn rfl
          refine (next_more_some g S hS p R c w (by omega) nn (by omega) x n r ⟨d.toArray⟩ hc (by omega) h5 h6 hrow).mono ?_
          rintro e w' ⟨rfl, h1, h2⟩
          refine ⟨rfl, fun _ => ⟨_, ?_, fun _ => hi⟩, h2⟩
          unfold rdc
          dsimp only
          rw [tl_some, hlen]
          exact h1
        | none =>
          by_cases h12 : (Fm.parse (p ++ [Bm.isOne c])).2.2 = 12
          · have hl : Cm.learn (p ++ [Bm.isOne c]) = (none, true) := by unfold Cm.learn; rw [if_pos h12]
            have hb : Cm.bit ⟨Sm.run (0, false) R, p, none, none⟩ (Bm.isOne c) = (12, ⟨Sm.step (Sm.run (0, false) R) (Bm.isOne c), p ++ [Bm.isOne c], none, none⟩) := by
              show Cm.within _ _ = _
              unfold Cm.within
              rw [if_neg h6, if_neg h5, hl]
              rfl
            rw [hb]
            refine (next_more_bad g S hS p R c w (by omega) hc (by omega) h5 h6 h12 hrow).mono ?_
            rintro e w' ⟨rfl, h2⟩
            exact ⟨rfl, fun h => absurd h (by show ¬ (12 : Nat) ≤ 1; decide), h2⟩
          · by_cases h0 : (Fm.parse (p ++ [Bm.isOne c])).2.2 = 0
            · have hl : Cm.learn (p ++ [Bm.isOne c]) = (some ((Fm.parse (p ++ [Bm.isOne c])).1, (Fm.parse (p ++ [Bm.isOne c])).2.1), false) := by unfold Cm.learn; rw [if_neg h12, if_pos h0]
              have hb : Cm.bit ⟨Sm.run (0, false) R, p, none, none⟩ (Bm.isOne c) = (0, ⟨Sm.step (Sm.run (0, false) R) (Bm.isOne c), p ++ [Bm.isOne c], some ((Fm.parse (p ++ [Bm.isOne c])).1, (Fm.parse (p ++ [Bm.isOne c])).2.1), if Cm.lies (p ++ [Bm.isOne c]) (some ((Fm.parse (p ++ [Bm.isOne c])).1, (Fm.parse (p ++ [Bm.isOne c])).2.1)) = true ∧ (Sm.step (Sm.run (0, false) R) (Bm.isOne c)).1 ≠ 5 then some 0 else none⟩) := by
                show Cm.within _ _ = _
                unfold Cm.within
                rw [if_neg h6, if_neg h5, hl]
                rfl
              rw [hb]
              have hle := parse_le (p ++ [Bm.isOne c])
              rw [hlen] at hle
              have hi : Inv _ (R ++ [Bm.isOne c]) (S.size + 1) := inv_in (p := p ++ [Bm.isOne c]) (wn := some ((Fm.parse (p ++ [Bm.isOne c])).1, (Fm.parse (p ++ [Bm.isOne c])).2.1)) hc h6 hR (by rw [hlen]; omega) (fun f n h => by cases h; omega)
              refine (next_more_learn g S hS p R c w (by omega) hc (by omega) h5 h6 h0 (by omega) hrow).mono ?_
              rintro e w' ⟨rfl, h1, h2⟩
              refine ⟨rfl, fun _ => ⟨_, ?_, fun _ => hi⟩, h2⟩
              unfold rdc
              dsimp only
              rw [tl_some, hlen]
              exact h1
            · have hl : Cm.learn (p ++ [Bm.isOne c]) = (none, false) := by unfold Cm.learn; rw [if_neg h12, if_neg h0]
              have hb : Cm.bit ⟨Sm.run (0, false) R, p, none, none⟩ (Bm.isOne c) = (0, ⟨Sm.step (Sm.run (0, false) R) (Bm.isOne c), p ++ [Bm.isOne c], none, if Cm.lies (p ++ [Bm.isOne c]) none = true ∧ (Sm.step (Sm.run (0, false) R) (Bm.isOne c)).1 ≠ 5 then some 0 else none⟩) := by
                show Cm.within _ _ = _
                unfold Cm.within
                rw [if_neg h6, if_neg h5, hl]
                rfl
              rw [hb]
              have hi : Inv _ (R ++ [Bm.isOne c]) (S.size + 1) := inv_in (p := p ++ [Bm.isOne c]) (wn := none) hc h6 hR (by rw [hlen]; omega) (fun f n h => by cases h)
              refine (next_more_none g S hS p R c w (by omega) hc (by omega) h5 h6 h12 h0 hrow).mono ?_
              rintro e w' ⟨rfl, h1, h2⟩
              refine ⟨rfl, fun _ => ⟨_, ?_, fun _ => hi⟩, h2⟩
              unfold rdc
              dsimp only
              rw [tl_none]
              exact h1
end Go.Proofs.YthkaekpoicodeaaGreatDoor
/- The document's own Decode, over its text. -/
namespace Go.Proofs.YthkaekpoicodeaaGreatDoor
open Go.RowKit
set_option maxRecDepth 100000 in
set_option maxHeartbeats 1000000 in
theorem newreader_any (w : World) : Calls Tryz.prog 35 #[] w fun e w' => e = .returned (.pointer (some ⟨w.heap.size, 0, none⟩)) ∧ w'.heap[w.heap.size]? = some (.cells (rdc ⟨#[]⟩ Cm.Rd.new []) 89 (0, 0)) ∧ Below w.heap.size w w' := by
  go_enter Tryz.func35, Tryz.ntmps35
  go_wp2
  go_ret
  exact ⟨rfl, heap_alloc_new _ _, (Below.refl _ _).alloc (Nat.le_refl _) _⟩
end Go.Proofs.YthkaekpoicodeaaGreatDoor
/- The document's own Encode, over its text. -/
namespace Go.Proofs.YthkaekpoicodeaaGreatDoor
open Go.RowKit
theorem read_mk (l : List Bool) : Bm.read (ByteArray.mk (Bm.row l).toArray).data.toList = l := Bm.read_row l
theorem enc_cat (l : List Bool) : ByteArray.mk (Bm.row (l ++ Cm.ones 10)).toArray = ByteArray.mk (Bm.row l).toArray ++ ByteArray.mk #[49, 49, 49, 49, 49, 49, 49, 49, 49, 49] := by
  rw [mk_row_app]; rfl
set_option maxRecDepth 100000 in
set_option maxHeartbeats 1000000 in
theorem refFEnc_any (x : Bool) (n : Nat) (r : Bool) (d : ByteArray) (w : World) (hn : n < 4294967296) :
    Calls Tryz.prog 68 #[.agg #[.bool x, .int .u32 n, .bool r, .string d]] w fun e w' => e = .returned (.string ⟨(Bm.row (Cm.enc x n r d.data.toList)).toArray⟩) ∧ Below w.heap.size w w' := by
  have HI : Hid (∀ w, Calls Tryz.prog 22 #[.agg #[.bool x, .int .u32 n, .bool r, .string d]] w fun e w' => e = .returned (.bool (Fm.isF x n r d.data.toList)) ∧ Below w.heap.size w w') := fun w => refFIs_any x n r d w
  have HJ : Hid (∀ w, Calls Tryz.prog 98 #[.agg #[.bool x, .int .u32 n, .bool r, .string d]] w fun e w' => e = .returned (.string ⟨(Bm.row (Fm.body x n r d.data.toList)).toArray⟩) ∧ Below w.heap.size w w') := fun w => refFBody_any x n r d w hn
  have HA : Hid (Cm.enc x n r d.data.toList = if Fm.isF x n r d.data.toList then Cm.enc0 x n r d.data.toList else []) := rfl
  have HQ : Hid (Fm.isF x n r d.data.toList = true → (Fm.body0 x n r d.data.toList).length ≤ 103 ∧ (Cm.enc0 x n r d.data.toList).length ≤ 200) := fun h => by
    have h8 := (Fm.isF_parts h).2.1
    refine ⟨?_, (Cm.enc_len h).2.2⟩
    have hl := Fm.length_body0 x n r d.data.toList
    split at hl <;> omega
  have HB : Hid (Fm.body x n r d.data.toList = if Fm.isF x n r d.data.toList then Fm.body0 x n r d.data.toList else []) := rfl
  have HE0 : Hid (Cm.enc0 x n r d.data.toList = Sm.stuff (Fm.body0 x n r d.data.toList ++ Bm.ofB (Bm.crc (Fm.body0 x n r d.data.toList)) 15) ++ Cm.ones 10) := rfl
  generalize Cm.enc x n r d.data.toList = res at *
  generalize Cm.enc0 x n r d.data.toList = res0 at *
  generalize Fm.body x n r d.data.toList = bo at *
  generalize Fm.isF x n r d.data.toList = b at *
  cases b
  · have HE : Hid (res = []) := HA.out
    go_enter Tryz.func68, Tryz.ntmps68
    go_wp2_with fail
    refine (HI.out _).mono ?_
    rintro e w1 ⟨rfl, hb1⟩
    have hb2 := below_join ((Below.refl _ _).alloc (Nat.le_refl _) _) hb1
    go_wp2
    go_ret
    exact ⟨by rw [HE.out]; rfl, hb2⟩
  · have HE : Hid (res = res0) := HA.out
    have HG : Hid (bo = Fm.body0 x n r d.data.toList) := HB.out
    obtain ⟨h1, h2⟩ := HQ.out rfl
    clear HA HB HQ
    generalize Fm.body0 x n r d.data.toList = bb at *
    have hcl := Bm.crc_lt bb
    have hlb : (bb ++ Bm.ofB (Bm.crc bb) 15).length = bb.length + 15 := by rw [List.length_append, Bm.length_ofB]
    have HC : Hid (∀ w, Calls Tryz.prog 65 #[.string ⟨(Bm.row bb).toArray⟩] w fun e w' => e = .returned (.int .u16 (Bm.crc bb)) ∧ w' = w) := fun w => by
      have h := refCrc_any ⟨(Bm.row bb).toArray⟩ w (by rw [size_rowr]; unfold maxLen; omega)
      rw [read_mk] at h
      exact h
    have HF : Hid (∀ w, Calls Tryz.prog 99 #[.int .u64 (Bm.crc bb : Int), .int .i64 15] w fun e w' => e = .returned (.string ⟨(Bm.row (Bm.ofB (Bm.crc bb) 15)).toArray⟩) ∧ w' = w) := fun w => refOf_k (Bm.crc bb) 15 (by decide) (by omega) w _ rfl _ rfl
    have HS : Hid (∀ w, Calls Tryz.prog 69 #[.string (ByteArray.mk (Bm.row bb).toArray ++ ByteArray.mk (Bm.row (Bm.ofB (Bm.crc bb) 15)).toArray)] w fun e w' => e = .returned (.string ⟨(Bm.row (Sm.stuff (bb ++ Bm.ofB (Bm.crc bb) 15))).toArray⟩) ∧ Below w.heap.size w w') := fun w => by
      have h := rstuff_any ⟨(Bm.row (bb ++ Bm.ofB (Bm.crc bb) 15)).toArray⟩ w (by rw [size_rowr]; omega)
      rw [read_mk, mk_row_app] at h
      exact h
    have HK : Hid (_) := enc_cat (Sm.stuff (bb ++ Bm.ofB (Bm.crc bb) 15))
    rw [← HE0.out] at HK
    have sA := size_rowr bb
    have sB := size_rowr (Bm.ofB (Bm.crc bb) 15)
    rw [Bm.length_ofB] at sB
    have sC := size_rowr (Sm.stuff (bb ++ Bm.ofB (Bm.crc bb) 15))
    have hst : (Sm.stuff (bb ++ Bm.ofB (Bm.crc bb) 15)).length ≤ 190 := by
      rw [HE0.out, List.length_append] at h2
      have h10 : (Cm.ones 10).length = 10 := rfl
      omega
    rw [← sC] at hst
    clear sC HE0 hlb
    generalize ByteArray.mk (Bm.row (Sm.stuff (bb ++ Bm.ofB (Bm.crc bb) 15))).toArray = U at *
    generalize ByteArray.mk (Bm.row (Bm.ofB (Bm.crc bb) 15)).toArray = B at *
    rw [HG.out] at HJ
    generalize ByteArray.mk (Bm.row bb).toArray = A at *
    generalize Bm.crc bb = cr at *
    go_enter Tryz.func68, Tryz.ntmps68
    go_wp2_with fail
    refine (HI.out _).mono ?_
    rintro e w1 ⟨rfl, hb1⟩
    have c0 : w1.cell? ⟨w.heap.size, 0, none⟩ = some (.bool x) := (hb1.cell (p := ⟨w.heap.size, 0, none⟩) (by simp)).trans (by rw [cell_of_row _ _ _ _ _ _ (heap_alloc_new _ _)]; rfl)
    have c1 : w1.cell? ⟨w.heap.size, 1, none⟩ = some (.int .u32 n) := (hb1.cell (p := ⟨w.heap.size, 1, none⟩) (by simp)).trans (by rw [cell_of_row _ _ _ _ _ _ (heap_alloc_new _ _)]; rfl)
    have c2 : w1.cell? ⟨w.heap.size, 2, none⟩ = some (.bool r) := (hb1.cell (p := ⟨w.heap.size, 2, none⟩) (by simp)).trans (by rw [cell_of_row _ _ _ _ _ _ (heap_alloc_new _ _)]; rfl)
    have c3 : w1.cell? ⟨w.heap.size, 3, none⟩ = some (.string d) := (hb1.cell (p := ⟨w.heap.size, 3, none⟩) (by simp)).trans (by rw [cell_of_row _ _ _ _ _ _ (heap_alloc_new _ _)]; rfl)
    have hb2 := below_join ((Below.refl _ _).alloc (Nat.le_refl _) _) hb1
    clear hb1 HI
    go_wp2_with fail
    refine (HJ.out _).mono ?_
    rintro e w2 ⟨rfl, hb3⟩
    have hb4 := below_join hb2 hb3
    clear hb3 hb2 c0 c1 c2 c3 HJ
    go_wp2_with (first | (go_at_call 65; refine (HC.out _).mono ?_; rintro e w' ⟨rfl, rfl⟩) | (go_at_call 99; refine (HF.out _).mono ?_; rintro e w' ⟨rfl, rfl⟩) | (go_at_call 69; refine (HS.out _).mono ?_; rintro e w3 ⟨rfl, hb5⟩))
    go_ret
    exact ⟨by rw [HE.out, HK.out]; rfl, below_join hb4 hb5⟩
end Go.Proofs.YthkaekpoicodeaaGreatDoor
