/- MatrixBounds: each field at its bounds, and one beyond; for every byte and both; no condition. -/
import Derived.Test.YthknkolnalobjaaDoorB4
import Derived.ProofKit
import Derived.OpenShut
namespace Go.Proofs.YthknkolnalobjaaDoor.matrixBounds
open Go.ChangeShapes Go.WideShapes Go.ChangeAt Go.RowKit
set_option linter.unusedVariables false
variable {Q : World → Prop}
/-- A list that lies in a new block, all of it. -/
theorem li_new {w : World} {g n : Nat} {cur : Array Value} {T : TypeId} {C : List Value} (h : w.heap[g]? = some (.cells cur T (0, 0))) (hm : n ≤ maxLen) (hC : C = cur.toList) : LI w (some ⟨g, 0, none⟩) n n C := by
  refine ⟨Nat.le_refl _, hm, Or.inr ⟨g, 0, rfl, (Array.getElem?_eq_some_iff.1 h).1, fun k v hk => ?_⟩⟩
  rw [cell_of_row _ _ _ _ _ _ h, Nat.zero_add]
  subst hC
  simpa using hk
theorem infoInt : (Tryd.prog.info? 3).map (fun i => (i.zero, i.size, i.bytes)) = some (some (.int .i64 0), 1, 8) := by kernel_rfl
theorem infoMsg : (Tryd.prog.info? 41).map (fun i => (i.zero, i.size, i.bytes)) = some (some (.agg #[.int .u32 0, .int .i64 0, .bool false]), 3, 24) := by kernel_rfl
theorem make_int (x : Int) (n : Nat) (hx : x = (n : Int)) (hn : n ≤ 100) (W : World) : (Instr.makeSlice 23 (.int .i64 x) (.int .i64 x)).run Tryd.prog W = .ok (.slice (some ⟨W.heap.size, 0, none⟩) n n) (W.alloc (.cells (madeCells #[.int .i64 0] n) 3)) := by
  obtain ⟨i0, hi, hz0, hz1, hz2⟩ := info_parts infoInt
  subst hx
  have h := run_make (P := Tryd.prog) W 23 3 i0 (.int .i64 0) Tryd.underlying23 hi hz0 .i64 .i64 (n : Int) (n : Int) (by omega) (Int.le_refl _) (by rw [hz2]; omega) (by omega)
  rw [h]
  simp only [Int.toNat_natCast, hz1, Nat.mul_one]
  rfl
theorem make_msg (x : Int) (n : Nat) (hx : x = (n : Int)) (hn : n ≤ 100) (W : World) : (Instr.makeSlice 24 (.int .i64 x) (.int .i64 x)).run Tryd.prog W = .ok (.slice (some ⟨W.heap.size, 0, none⟩) n n) (W.alloc (.cells (madeCells #[.int .u32 0, .int .i64 0, .bool false] (n * 3)) 41)) := by
  obtain ⟨i0, hi, hz0, hz1, hz2⟩ := info_parts infoMsg
  subst hx
  have h := run_make (P := Tryd.prog) W 24 41 i0 (.agg #[.int .u32 0, .int .i64 0, .bool false]) Tryd.underlying24 hi hz0 .i64 .i64 (n : Int) (n : Int) (by omega) (Int.le_refl _) (by rw [hz2]; omega) (by omega)
  rw [h]
  simp only [Int.toNat_natCast, hz1]
  rfl
set_option maxRecDepth 100000 in
set_option maxHeartbeats 16000000 in
theorem walkN (hQ : ∀ w w', Q w → Below w.heap.size w w' → Q w') (S : MatSpec Q) (x : Nat) (hx : x < 256) (mo : Bool) (W : World) (hW : Q W) :
    Calls Tryd.prog 6 #[.int .u8 (x : Int), .bool mo] W fun e w' => e = .returned (.bool true) ∧ Below W.heap.size W w' := by
  have HQ : Hid (∀ w, Below W.heap.size W w → Q w) := fun w hb => hQ W w hW hb
  have hk := known12_any hQ S W hW
  clear hQ hW
  obtain ⟨r, hr⟩ : ∃ r : Nat, (x : Int) % 12 = (r : Int) := ⟨x % 12, by omega⟩
  have hr' : (x : Int).tmod 12 = (r : Int) := by rw [Int.tmod_eq_emod_of_nonneg (by omega)]; exact hr
  have r12 : r < 12 := by omega
  have xi : (x : Int) < 256 := by omega
  clear hx
  go_enter Tryd.func6, Tryd.ntmps6
  go_wp2_with fail
  refine hk.mono ?_
  rintro e wa ⟨rfl, hba⟩
  have hA : Hid (Below W.heap.size W wa) := hba
  clear hk hba
  go_wp2_with fail
  refine (least_any wa).mono ?_
  rintro e w1 ⟨⟨s1, c1, s2, c2, s3, c3⟩, rfl, hm1, _, hb1⟩
  have HA : Hid (Below W.heap.size W w1) := hA.out.trans (hb1.mono hA.out.size)
  have HM : Hid (MIn w1 Mx.least ⟨s1, c1, s2, c2, s3, c3⟩) := hm1
  clear hA hm1 hb1
  have e1 : mV Mx.least ⟨s1, c1, s2, c2, s3, c3⟩ = .agg #[.int .i64 1, .int .i64 2, .int .i64 1, .int .i64 200, .int .i64 1, .int .i64 16, .int .i64 0, .int .u32 0, .slice s1 1 c1, .slice s2 1 c2, .slice s3 0 c3] := rfl
  rw [e1]
  clear e1
  obtain rfl | rfl | rfl | rfl | rfl | rfl | rfl | rfl | rfl | rfl | rfl | rfl : r = 0 ∨ r = 1 ∨ r = 2 ∨ r = 3 ∨ r = 4 ∨ r = 5 ∨ r = 6 ∨ r = 7 ∨ r = 8 ∨ r = 9 ∨ r = 10 ∨ r = 11 := by omega
  · cases mo
    · skip
      as_aux_lemma =>
        have HI : Hid (Calls Tryd.prog 13 #[.agg #[.int .i64 2, .int .i64 2, .int .i64 8, .int .i64 200, .int .i64 1, .int .i64 16, .int .i64 0, .int .u32 0, .slice s1 1 c1, .slice s2 1 c2, .slice s3 0 c3]] (w1.alloc (.cells #[.int .i64 2, .int .i64 2, .int .i64 8, .int .i64 200, .int .i64 1, .int .i64 16, .int .i64 0, .int .u32 0, .slice s1 1 c1, .slice s2 1 c2, .slice s3 0 c3] 27)) fun e w' => e = .returned (.bool true) ∧ Below (w1.alloc (.cells #[.int .i64 2, .int .i64 2, .int .i64 8, .int .i64 200, .int .i64 1, .int .i64 16, .int .i64 0, .int .u32 0, .slice s1 1 c1, .slice s2 1 c2, .slice s3 0 c3] 27)).heap.size (w1.alloc (.cells #[.int .i64 2, .int .i64 2, .int .i64 8, .int .i64 200, .int .i64 1, .int .i64 16, .int .i64 0, .int .u32 0, .slice s1 1 c1, .slice s2 1 c2, .slice s3 0 c3] 27)) w') := by
          have hb : Below w1.heap.size w1 (w1.alloc (.cells #[.int .i64 2, .int .i64 2, .int .i64 8, .int .i64 200, .int .i64 1, .int .i64 16, .int .i64 0, .int .u32 0, .slice s1 1 c1, .slice s2 1 c2, .slice s3 0 c3] 27)) := (Below.refl _ _).alloc (Nat.le_refl _) _
          exact S.is _ (⟨2, 2, 8, 200, 1, 16, 0, 0, [0], [⟨9, 1, false⟩], []⟩ : Mx.M) ⟨s1, c1, s2, c2, s3, c3⟩ (HQ.out _ (HA.out.trans (hb.mono HA.out.size))) ⟨(HM.out.on hb).l1, (HM.out.on hb).l2, (HM.out.on hb).l3⟩ ⟨by decide, by decide, by decide⟩ ⟨rfl, rfl, rfl, rfl, rfl, rfl, rfl, by decide, wf_least.masters, wf_least.messages, wf_least.windows⟩
        have HB : Hid (Below W.heap.size W (w1.alloc (.cells #[.int .i64 2, .int .i64 2, .int .i64 8, .int .i64 200, .int .i64 1, .int .i64 16, .int .i64 0, .int .u32 0, .slice s1 1 c1, .slice s2 1 c2, .slice s3 0 c3] 27))) := HA.out.alloc HA.out.size _
        go_wp2_with fail
        refine HI.out.mono ?_
        rintro e w2 ⟨rfl, hb2⟩
        replace HB : Hid (Below W.heap.size W w2) := HB.out.trans (hb2.mono HB.out.size)
        clear hb2 HI
        go_wp2
        go_ret
        exact ⟨rfl, HB.out⟩
    · skip
      as_aux_lemma =>
        have HI : Hid (Calls Tryd.prog 13 #[.agg #[.int .i64 3, .int .i64 2, .int .i64 8, .int .i64 200, .int .i64 1, .int .i64 16, .int .i64 0, .int .u32 0, .slice s1 1 c1, .slice s2 1 c2, .slice s3 0 c3]] (w1.alloc (.cells #[.int .i64 3, .int .i64 2, .int .i64 8, .int .i64 200, .int .i64 1, .int .i64 16, .int .i64 0, .int .u32 0, .slice s1 1 c1, .slice s2 1 c2, .slice s3 0 c3] 27)) fun e w' => e = .returned (.bool false) ∧ Below (w1.alloc (.cells #[.int .i64 3, .int .i64 2, .int .i64 8, .int .i64 200, .int .i64 1, .int .i64 16, .int .i64 0, .int .u32 0, .slice s1 1 c1, .slice s2 1 c2, .slice s3 0 c3] 27)).heap.size (w1.alloc (.cells #[.int .i64 3, .int .i64 2, .int .i64 8, .int .i64 200, .int .i64 1, .int .i64 16, .int .i64 0, .int .u32 0, .slice s1 1 c1, .slice s2 1 c2, .slice s3 0 c3] 27)) w') := by
          have hb : Below w1.heap.size w1 (w1.alloc (.cells #[.int .i64 3, .int .i64 2, .int .i64 8, .int .i64 200, .int .i64 1, .int .i64 16, .int .i64 0, .int .u32 0, .slice s1 1 c1, .slice s2 1 c2, .slice s3 0 c3] 27)) := (Below.refl _ _).alloc (Nat.le_refl _) _
          exact S.is _ (⟨3, 2, 8, 200, 1, 16, 0, 0, [0], [⟨9, 1, false⟩], []⟩ : Mx.M) ⟨s1, c1, s2, c2, s3, c3⟩ (HQ.out _ (HA.out.trans (hb.mono HA.out.size))) ⟨(HM.out.on hb).l1, (HM.out.on hb).l2, (HM.out.on hb).l3⟩ ⟨by decide, by decide, by decide⟩ ⟨rfl, rfl, rfl, rfl, rfl, rfl, rfl, by decide, wf_least.masters, wf_least.messages, wf_least.windows⟩
        have HB : Hid (Below W.heap.size W (w1.alloc (.cells #[.int .i64 3, .int .i64 2, .int .i64 8, .int .i64 200, .int .i64 1, .int .i64 16, .int .i64 0, .int .u32 0, .slice s1 1 c1, .slice s2 1 c2, .slice s3 0 c3] 27))) := HA.out.alloc HA.out.size _
        go_wp2_with fail
        refine HI.out.mono ?_
        rintro e w2 ⟨rfl, hb2⟩
        replace HB : Hid (Below W.heap.size W w2) := HB.out.trans (hb2.mono HB.out.size)
        clear hb2 HI
        go_wp2
        go_ret
        exact ⟨rfl, HB.out⟩
  · cases mo
    · skip
      as_aux_lemma =>
        have HI : Hid (Calls Tryd.prog 13 #[.agg #[.int .i64 1, .int .i64 8, .int .i64 8, .int .i64 200, .int .i64 1, .int .i64 16, .int .i64 0, .int .u32 0, .slice s1 1 c1, .slice s2 1 c2, .slice s3 0 c3]] (w1.alloc (.cells #[.int .i64 1, .int .i64 8, .int .i64 8, .int .i64 200, .int .i64 1, .int .i64 16, .int .i64 0, .int .u32 0, .slice s1 1 c1, .slice s2 1 c2, .slice s3 0 c3] 27)) fun e w' => e = .returned (.bool true) ∧ Below (w1.alloc (.cells #[.int .i64 1, .int .i64 8, .int .i64 8, .int .i64 200, .int .i64 1, .int .i64 16, .int .i64 0, .int .u32 0, .slice s1 1 c1, .slice s2 1 c2, .slice s3 0 c3] 27)).heap.size (w1.alloc (.cells #[.int .i64 1, .int .i64 8, .int .i64 8, .int .i64 200, .int .i64 1, .int .i64 16, .int .i64 0, .int .u32 0, .slice s1 1 c1, .slice s2 1 c2, .slice s3 0 c3] 27)) w') := by
          have hb : Below w1.heap.size w1 (w1.alloc (.cells #[.int .i64 1, .int .i64 8, .int .i64 8, .int .i64 200, .int .i64 1, .int .i64 16, .int .i64 0, .int .u32 0, .slice s1 1 c1, .slice s2 1 c2, .slice s3 0 c3] 27)) := (Below.refl _ _).alloc (Nat.le_refl _) _
          exact S.is _ (⟨1, 8, 8, 200, 1, 16, 0, 0, [0], [⟨9, 1, false⟩], []⟩ : Mx.M) ⟨s1, c1, s2, c2, s3, c3⟩ (HQ.out _ (HA.out.trans (hb.mono HA.out.size))) ⟨(HM.out.on hb).l1, (HM.out.on hb).l2, (HM.out.on hb).l3⟩ ⟨by decide, by decide, by decide⟩ ⟨rfl, rfl, rfl, rfl, rfl, rfl, rfl, by decide, wf_least.masters, wf_least.messages, wf_least.windows⟩
        have HB : Hid (Below W.heap.size W (w1.alloc (.cells #[.int .i64 1, .int .i64 8, .int .i64 8, .int .i64 200, .int .i64 1, .int .i64 16, .int .i64 0, .int .u32 0, .slice s1 1 c1, .slice s2 1 c2, .slice s3 0 c3] 27))) := HA.out.alloc HA.out.size _
        go_wp2_with fail
        refine HI.out.mono ?_
        rintro e w2 ⟨rfl, hb2⟩
        replace HB : Hid (Below W.heap.size W w2) := HB.out.trans (hb2.mono HB.out.size)
        clear hb2 HI
        go_wp2
        go_ret
        exact ⟨rfl, HB.out⟩
    · skip
      as_aux_lemma =>
        have HI : Hid (Calls Tryd.prog 13 #[.agg #[.int .i64 1, .int .i64 9, .int .i64 8, .int .i64 200, .int .i64 1, .int .i64 16, .int .i64 0, .int .u32 0, .slice s1 1 c1, .slice s2 1 c2, .slice s3 0 c3]] (w1.alloc (.cells #[.int .i64 1, .int .i64 9, .int .i64 8, .int .i64 200, .int .i64 1, .int .i64 16, .int .i64 0, .int .u32 0, .slice s1 1 c1, .slice s2 1 c2, .slice s3 0 c3] 27)) fun e w' => e = .returned (.bool false) ∧ Below (w1.alloc (.cells #[.int .i64 1, .int .i64 9, .int .i64 8, .int .i64 200, .int .i64 1, .int .i64 16, .int .i64 0, .int .u32 0, .slice s1 1 c1, .slice s2 1 c2, .slice s3 0 c3] 27)).heap.size (w1.alloc (.cells #[.int .i64 1, .int .i64 9, .int .i64 8, .int .i64 200, .int .i64 1, .int .i64 16, .int .i64 0, .int .u32 0, .slice s1 1 c1, .slice s2 1 c2, .slice s3 0 c3] 27)) w') := by
          have hb : Below w1.heap.size w1 (w1.alloc (.cells #[.int .i64 1, .int .i64 9, .int .i64 8, .int .i64 200, .int .i64 1, .int .i64 16, .int .i64 0, .int .u32 0, .slice s1 1 c1, .slice s2 1 c2, .slice s3 0 c3] 27)) := (Below.refl _ _).alloc (Nat.le_refl _) _
          exact S.is _ (⟨1, 9, 8, 200, 1, 16, 0, 0, [0], [⟨9, 1, false⟩], []⟩ : Mx.M) ⟨s1, c1, s2, c2, s3, c3⟩ (HQ.out _ (HA.out.trans (hb.mono HA.out.size))) ⟨(HM.out.on hb).l1, (HM.out.on hb).l2, (HM.out.on hb).l3⟩ ⟨by decide, by decide, by decide⟩ ⟨rfl, rfl, rfl, rfl, rfl, rfl, rfl, by decide, wf_least.masters, wf_least.messages, wf_least.windows⟩
        have HB : Hid (Below W.heap.size W (w1.alloc (.cells #[.int .i64 1, .int .i64 9, .int .i64 8, .int .i64 200, .int .i64 1, .int .i64 16, .int .i64 0, .int .u32 0, .slice s1 1 c1, .slice s2 1 c2, .slice s3 0 c3] 27))) := HA.out.alloc HA.out.size _
        go_wp2_with fail
        refine HI.out.mono ?_
        rintro e w2 ⟨rfl, hb2⟩
        replace HB : Hid (Below W.heap.size W w2) := HB.out.trans (hb2.mono HB.out.size)
        clear hb2 HI
        go_wp2
        go_ret
        exact ⟨rfl, HB.out⟩
  · cases mo
    · skip
      as_aux_lemma =>
        have HI : Hid (Calls Tryd.prog 13 #[.agg #[.int .i64 1, .int .i64 2, .int .i64 8, .int .i64 200, .int .i64 1, .int .i64 16, .int .i64 0, .int .u32 0, .slice s1 1 c1, .slice s2 1 c2, .slice s3 0 c3]] (w1.alloc (.cells #[.int .i64 1, .int .i64 2, .int .i64 8, .int .i64 200, .int .i64 1, .int .i64 16, .int .i64 0, .int .u32 0, .slice s1 1 c1, .slice s2 1 c2, .slice s3 0 c3] 27)) fun e w' => e = .returned (.bool true) ∧ Below (w1.alloc (.cells #[.int .i64 1, .int .i64 2, .int .i64 8, .int .i64 200, .int .i64 1, .int .i64 16, .int .i64 0, .int .u32 0, .slice s1 1 c1, .slice s2 1 c2, .slice s3 0 c3] 27)).heap.size (w1.alloc (.cells #[.int .i64 1, .int .i64 2, .int .i64 8, .int .i64 200, .int .i64 1, .int .i64 16, .int .i64 0, .int .u32 0, .slice s1 1 c1, .slice s2 1 c2, .slice s3 0 c3] 27)) w') := by
          have hb : Below w1.heap.size w1 (w1.alloc (.cells #[.int .i64 1, .int .i64 2, .int .i64 8, .int .i64 200, .int .i64 1, .int .i64 16, .int .i64 0, .int .u32 0, .slice s1 1 c1, .slice s2 1 c2, .slice s3 0 c3] 27)) := (Below.refl _ _).alloc (Nat.le_refl _) _
          exact S.is _ (⟨1, 2, 8, 200, 1, 16, 0, 0, [0], [⟨9, 1, false⟩], []⟩ : Mx.M) ⟨s1, c1, s2, c2, s3, c3⟩ (HQ.out _ (HA.out.trans (hb.mono HA.out.size))) ⟨(HM.out.on hb).l1, (HM.out.on hb).l2, (HM.out.on hb).l3⟩ ⟨by decide, by decide, by decide⟩ ⟨rfl, rfl, rfl, rfl, rfl, rfl, rfl, by decide, wf_least.masters, wf_least.messages, wf_least.windows⟩
        have HB : Hid (Below W.heap.size W (w1.alloc (.cells #[.int .i64 1, .int .i64 2, .int .i64 8, .int .i64 200, .int .i64 1, .int .i64 16, .int .i64 0, .int .u32 0, .slice s1 1 c1, .slice s2 1 c2, .slice s3 0 c3] 27))) := HA.out.alloc HA.out.size _
        go_wp2_with fail
        refine HI.out.mono ?_
        rintro e w2 ⟨rfl, hb2⟩
        replace HB : Hid (Below W.heap.size W w2) := HB.out.trans (hb2.mono HB.out.size)
        clear hb2 HI
        go_wp2
        go_ret
        exact ⟨rfl, HB.out⟩
    · skip
      as_aux_lemma =>
        have HI : Hid (Calls Tryd.prog 13 #[.agg #[.int .i64 1, .int .i64 2, .int .i64 9, .int .i64 200, .int .i64 1, .int .i64 16, .int .i64 0, .int .u32 0, .slice s1 1 c1, .slice s2 1 c2, .slice s3 0 c3]] (w1.alloc (.cells #[.int .i64 1, .int .i64 2, .int .i64 9, .int .i64 200, .int .i64 1, .int .i64 16, .int .i64 0, .int .u32 0, .slice s1 1 c1, .slice s2 1 c2, .slice s3 0 c3] 27)) fun e w' => e = .returned (.bool false) ∧ Below (w1.alloc (.cells #[.int .i64 1, .int .i64 2, .int .i64 9, .int .i64 200, .int .i64 1, .int .i64 16, .int .i64 0, .int .u32 0, .slice s1 1 c1, .slice s2 1 c2, .slice s3 0 c3] 27)).heap.size (w1.alloc (.cells #[.int .i64 1, .int .i64 2, .int .i64 9, .int .i64 200, .int .i64 1, .int .i64 16, .int .i64 0, .int .u32 0, .slice s1 1 c1, .slice s2 1 c2, .slice s3 0 c3] 27)) w') := by
          have hb : Below w1.heap.size w1 (w1.alloc (.cells #[.int .i64 1, .int .i64 2, .int .i64 9, .int .i64 200, .int .i64 1, .int .i64 16, .int .i64 0, .int .u32 0, .slice s1 1 c1, .slice s2 1 c2, .slice s3 0 c3] 27)) := (Below.refl _ _).alloc (Nat.le_refl _) _
          exact S.is _ (⟨1, 2, 9, 200, 1, 16, 0, 0, [0], [⟨9, 1, false⟩], []⟩ : Mx.M) ⟨s1, c1, s2, c2, s3, c3⟩ (HQ.out _ (HA.out.trans (hb.mono HA.out.size))) ⟨(HM.out.on hb).l1, (HM.out.on hb).l2, (HM.out.on hb).l3⟩ ⟨by decide, by decide, by decide⟩ ⟨rfl, rfl, rfl, rfl, rfl, rfl, rfl, by decide, wf_least.masters, wf_least.messages, wf_least.windows⟩
        have HB : Hid (Below W.heap.size W (w1.alloc (.cells #[.int .i64 1, .int .i64 2, .int .i64 9, .int .i64 200, .int .i64 1, .int .i64 16, .int .i64 0, .int .u32 0, .slice s1 1 c1, .slice s2 1 c2, .slice s3 0 c3] 27))) := HA.out.alloc HA.out.size _
        go_wp2_with fail
        refine HI.out.mono ?_
        rintro e w2 ⟨rfl, hb2⟩
        replace HB : Hid (Below W.heap.size W w2) := HB.out.trans (hb2.mono HB.out.size)
        clear hb2 HI
        go_wp2
        go_ret
        exact ⟨rfl, HB.out⟩
  · cases mo
    · skip
      as_aux_lemma =>
        have HI : Hid (Calls Tryd.prog 13 #[.agg #[.int .i64 1, .int .i64 2, .int .i64 8, .int .i64 4000, .int .i64 1, .int .i64 16, .int .i64 0, .int .u32 0, .slice s1 1 c1, .slice s2 1 c2, .slice s3 0 c3]] (w1.alloc (.cells #[.int .i64 1, .int .i64 2, .int .i64 8, .int .i64 4000, .int .i64 1, .int .i64 16, .int .i64 0, .int .u32 0, .slice s1 1 c1, .slice s2 1 c2, .slice s3 0 c3] 27)) fun e w' => e = .returned (.bool true) ∧ Below (w1.alloc (.cells #[.int .i64 1, .int .i64 2, .int .i64 8, .int .i64 4000, .int .i64 1, .int .i64 16, .int .i64 0, .int .u32 0, .slice s1 1 c1, .slice s2 1 c2, .slice s3 0 c3] 27)).heap.size (w1.alloc (.cells #[.int .i64 1, .int .i64 2, .int .i64 8, .int .i64 4000, .int .i64 1, .int .i64 16, .int .i64 0, .int .u32 0, .slice s1 1 c1, .slice s2 1 c2, .slice s3 0 c3] 27)) w') := by
          have hb : Below w1.heap.size w1 (w1.alloc (.cells #[.int .i64 1, .int .i64 2, .int .i64 8, .int .i64 4000, .int .i64 1, .int .i64 16, .int .i64 0, .int .u32 0, .slice s1 1 c1, .slice s2 1 c2, .slice s3 0 c3] 27)) := (Below.refl _ _).alloc (Nat.le_refl _) _
          exact S.is _ (⟨1, 2, 8, 4000, 1, 16, 0, 0, [0], [⟨9, 1, false⟩], []⟩ : Mx.M) ⟨s1, c1, s2, c2, s3, c3⟩ (HQ.out _ (HA.out.trans (hb.mono HA.out.size))) ⟨(HM.out.on hb).l1, (HM.out.on hb).l2, (HM.out.on hb).l3⟩ ⟨by decide, by decide, by decide⟩ ⟨rfl, rfl, rfl, rfl, rfl, rfl, rfl, by decide, wf_least.masters, wf_least.messages, wf_least.windows⟩
        have HB : Hid (Below W.heap.size W (w1.alloc (.cells #[.int .i64 1, .int .i64 2, .int .i64 8, .int .i64 4000, .int .i64 1, .int .i64 16, .int .i64 0, .int .u32 0, .slice s1 1 c1, .slice s2 1 c2, .slice s3 0 c3] 27))) := HA.out.alloc HA.out.size _
        go_wp2_with fail
        refine HI.out.mono ?_
        rintro e w2 ⟨rfl, hb2⟩
        replace HB : Hid (Below W.heap.size W w2) := HB.out.trans (hb2.mono HB.out.size)
        clear hb2 HI
        go_wp2
        go_ret
        exact ⟨rfl, HB.out⟩
    · skip
      as_aux_lemma =>
        have HI : Hid (Calls Tryd.prog 13 #[.agg #[.int .i64 1, .int .i64 2, .int .i64 8, .int .i64 4001, .int .i64 1, .int .i64 16, .int .i64 0, .int .u32 0, .slice s1 1 c1, .slice s2 1 c2, .slice s3 0 c3]] (w1.alloc (.cells #[.int .i64 1, .int .i64 2, .int .i64 8, .int .i64 4001, .int .i64 1, .int .i64 16, .int .i64 0, .int .u32 0, .slice s1 1 c1, .slice s2 1 c2, .slice s3 0 c3] 27)) fun e w' => e = .returned (.bool false) ∧ Below (w1.alloc (.cells #[.int .i64 1, .int .i64 2, .int .i64 8, .int .i64 4001, .int .i64 1, .int .i64 16, .int .i64 0, .int .u32 0, .slice s1 1 c1, .slice s2 1 c2, .slice s3 0 c3] 27)).heap.size (w1.alloc (.cells #[.int .i64 1, .int .i64 2, .int .i64 8, .int .i64 4001, .int .i64 1, .int .i64 16, .int .i64 0, .int .u32 0, .slice s1 1 c1, .slice s2 1 c2, .slice s3 0 c3] 27)) w') := by
          have hb : Below w1.heap.size w1 (w1.alloc (.cells #[.int .i64 1, .int .i64 2, .int .i64 8, .int .i64 4001, .int .i64 1, .int .i64 16, .int .i64 0, .int .u32 0, .slice s1 1 c1, .slice s2 1 c2, .slice s3 0 c3] 27)) := (Below.refl _ _).alloc (Nat.le_refl _) _
          exact S.is _ (⟨1, 2, 8, 4001, 1, 16, 0, 0, [0], [⟨9, 1, false⟩], []⟩ : Mx.M) ⟨s1, c1, s2, c2, s3, c3⟩ (HQ.out _ (HA.out.trans (hb.mono HA.out.size))) ⟨(HM.out.on hb).l1, (HM.out.on hb).l2, (HM.out.on hb).l3⟩ ⟨by decide, by decide, by decide⟩ ⟨rfl, rfl, rfl, rfl, rfl, rfl, rfl, by decide, wf_least.masters, wf_least.messages, wf_least.windows⟩
        have HB : Hid (Below W.heap.size W (w1.alloc (.cells #[.int .i64 1, .int .i64 2, .int .i64 8, .int .i64 4001, .int .i64 1, .int .i64 16, .int .i64 0, .int .u32 0, .slice s1 1 c1, .slice s2 1 c2, .slice s3 0 c3] 27))) := HA.out.alloc HA.out.size _
        go_wp2_with fail
        refine HI.out.mono ?_
        rintro e w2 ⟨rfl, hb2⟩
        replace HB : Hid (Below W.heap.size W w2) := HB.out.trans (hb2.mono HB.out.size)
        clear hb2 HI
        go_wp2
        go_ret
        exact ⟨rfl, HB.out⟩
  · cases mo
    · skip
      as_aux_lemma =>
        have HI : Hid (Calls Tryd.prog 13 #[.agg #[.int .i64 1, .int .i64 2, .int .i64 8, .int .i64 200, .int .i64 16, .int .i64 16, .int .i64 0, .int .u32 0, .slice s1 1 c1, .slice s2 1 c2, .slice s3 0 c3]] (w1.alloc (.cells #[.int .i64 1, .int .i64 2, .int .i64 8, .int .i64 200, .int .i64 16, .int .i64 16, .int .i64 0, .int .u32 0, .slice s1 1 c1, .slice s2 1 c2, .slice s3 0 c3] 27)) fun e w' => e = .returned (.bool true) ∧ Below (w1.alloc (.cells #[.int .i64 1, .int .i64 2, .int .i64 8, .int .i64 200, .int .i64 16, .int .i64 16, .int .i64 0, .int .u32 0, .slice s1 1 c1, .slice s2 1 c2, .slice s3 0 c3] 27)).heap.size (w1.alloc (.cells #[.int .i64 1, .int .i64 2, .int .i64 8, .int .i64 200, .int .i64 16, .int .i64 16, .int .i64 0, .int .u32 0, .slice s1 1 c1, .slice s2 1 c2, .slice s3 0 c3] 27)) w') := by
          have hb : Below w1.heap.size w1 (w1.alloc (.cells #[.int .i64 1, .int .i64 2, .int .i64 8, .int .i64 200, .int .i64 16, .int .i64 16, .int .i64 0, .int .u32 0, .slice s1 1 c1, .slice s2 1 c2, .slice s3 0 c3] 27)) := (Below.refl _ _).alloc (Nat.le_refl _) _
          exact S.is _ (⟨1, 2, 8, 200, 16, 16, 0, 0, [0], [⟨9, 1, false⟩], []⟩ : Mx.M) ⟨s1, c1, s2, c2, s3, c3⟩ (HQ.out _ (HA.out.trans (hb.mono HA.out.size))) ⟨(HM.out.on hb).l1, (HM.out.on hb).l2, (HM.out.on hb).l3⟩ ⟨by decide, by decide, by decide⟩ ⟨rfl, rfl, rfl, rfl, rfl, rfl, rfl, by decide, wf_least.masters, wf_least.messages, wf_least.windows⟩
        have HB : Hid (Below W.heap.size W (w1.alloc (.cells #[.int .i64 1, .int .i64 2, .int .i64 8, .int .i64 200, .int .i64 16, .int .i64 16, .int .i64 0, .int .u32 0, .slice s1 1 c1, .slice s2 1 c2, .slice s3 0 c3] 27))) := HA.out.alloc HA.out.size _
        go_wp2_with fail
        refine HI.out.mono ?_
        rintro e w2 ⟨rfl, hb2⟩
        replace HB : Hid (Below W.heap.size W w2) := HB.out.trans (hb2.mono HB.out.size)
        clear hb2 HI
        go_wp2
        go_ret
        exact ⟨rfl, HB.out⟩
    · skip
      as_aux_lemma =>
        have HI : Hid (Calls Tryd.prog 13 #[.agg #[.int .i64 1, .int .i64 2, .int .i64 8, .int .i64 200, .int .i64 17, .int .i64 16, .int .i64 0, .int .u32 0, .slice s1 1 c1, .slice s2 1 c2, .slice s3 0 c3]] (w1.alloc (.cells #[.int .i64 1, .int .i64 2, .int .i64 8, .int .i64 200, .int .i64 17, .int .i64 16, .int .i64 0, .int .u32 0, .slice s1 1 c1, .slice s2 1 c2, .slice s3 0 c3] 27)) fun e w' => e = .returned (.bool false) ∧ Below (w1.alloc (.cells #[.int .i64 1, .int .i64 2, .int .i64 8, .int .i64 200, .int .i64 17, .int .i64 16, .int .i64 0, .int .u32 0, .slice s1 1 c1, .slice s2 1 c2, .slice s3 0 c3] 27)).heap.size (w1.alloc (.cells #[.int .i64 1, .int .i64 2, .int .i64 8, .int .i64 200, .int .i64 17, .int .i64 16, .int .i64 0, .int .u32 0, .slice s1 1 c1, .slice s2 1 c2, .slice s3 0 c3] 27)) w') := by
          have hb : Below w1.heap.size w1 (w1.alloc (.cells #[.int .i64 1, .int .i64 2, .int .i64 8, .int .i64 200, .int .i64 17, .int .i64 16, .int .i64 0, .int .u32 0, .slice s1 1 c1, .slice s2 1 c2, .slice s3 0 c3] 27)) := (Below.refl _ _).alloc (Nat.le_refl _) _
          exact S.is _ (⟨1, 2, 8, 200, 17, 16, 0, 0, [0], [⟨9, 1, false⟩], []⟩ : Mx.M) ⟨s1, c1, s2, c2, s3, c3⟩ (HQ.out _ (HA.out.trans (hb.mono HA.out.size))) ⟨(HM.out.on hb).l1, (HM.out.on hb).l2, (HM.out.on hb).l3⟩ ⟨by decide, by decide, by decide⟩ ⟨rfl, rfl, rfl, rfl, rfl, rfl, rfl, by decide, wf_least.masters, wf_least.messages, wf_least.windows⟩
        have HB : Hid (Below W.heap.size W (w1.alloc (.cells #[.int .i64 1, .int .i64 2, .int .i64 8, .int .i64 200, .int .i64 17, .int .i64 16, .int .i64 0, .int .u32 0, .slice s1 1 c1, .slice s2 1 c2, .slice s3 0 c3] 27))) := HA.out.alloc HA.out.size _
        go_wp2_with fail
        refine HI.out.mono ?_
        rintro e w2 ⟨rfl, hb2⟩
        replace HB : Hid (Below W.heap.size W w2) := HB.out.trans (hb2.mono HB.out.size)
        clear hb2 HI
        go_wp2
        go_ret
        exact ⟨rfl, HB.out⟩
  · cases mo
    · skip
      as_aux_lemma =>
        have HI : Hid (Calls Tryd.prog 13 #[.agg #[.int .i64 1, .int .i64 2, .int .i64 8, .int .i64 200, .int .i64 1, .int .i64 64, .int .i64 0, .int .u32 0, .slice s1 1 c1, .slice s2 1 c2, .slice s3 0 c3]] (w1.alloc (.cells #[.int .i64 1, .int .i64 2, .int .i64 8, .int .i64 200, .int .i64 1, .int .i64 64, .int .i64 0, .int .u32 0, .slice s1 1 c1, .slice s2 1 c2, .slice s3 0 c3] 27)) fun e w' => e = .returned (.bool true) ∧ Below (w1.alloc (.cells #[.int .i64 1, .int .i64 2, .int .i64 8, .int .i64 200, .int .i64 1, .int .i64 64, .int .i64 0, .int .u32 0, .slice s1 1 c1, .slice s2 1 c2, .slice s3 0 c3] 27)).heap.size (w1.alloc (.cells #[.int .i64 1, .int .i64 2, .int .i64 8, .int .i64 200, .int .i64 1, .int .i64 64, .int .i64 0, .int .u32 0, .slice s1 1 c1, .slice s2 1 c2, .slice s3 0 c3] 27)) w') := by
          have hb : Below w1.heap.size w1 (w1.alloc (.cells #[.int .i64 1, .int .i64 2, .int .i64 8, .int .i64 200, .int .i64 1, .int .i64 64, .int .i64 0, .int .u32 0, .slice s1 1 c1, .slice s2 1 c2, .slice s3 0 c3] 27)) := (Below.refl _ _).alloc (Nat.le_refl _) _
          exact S.is _ (⟨1, 2, 8, 200, 1, 64, 0, 0, [0], [⟨9, 1, false⟩], []⟩ : Mx.M) ⟨s1, c1, s2, c2, s3, c3⟩ (HQ.out _ (HA.out.trans (hb.mono HA.out.size))) ⟨(HM.out.on hb).l1, (HM.out.on hb).l2, (HM.out.on hb).l3⟩ ⟨by decide, by decide, by decide⟩ ⟨rfl, rfl, rfl, rfl, rfl, rfl, rfl, by decide, wf_least.masters, wf_least.messages, wf_least.windows⟩
        have HB : Hid (Below W.heap.size W (w1.alloc (.cells #[.int .i64 1, .int .i64 2, .int .i64 8, .int .i64 200, .int .i64 1, .int .i64 64, .int .i64 0, .int .u32 0, .slice s1 1 c1, .slice s2 1 c2, .slice s3 0 c3] 27))) := HA.out.alloc HA.out.size _
        go_wp2_with fail
        refine HI.out.mono ?_
        rintro e w2 ⟨rfl, hb2⟩
        replace HB : Hid (Below W.heap.size W w2) := HB.out.trans (hb2.mono HB.out.size)
        clear hb2 HI
        go_wp2
        go_ret
        exact ⟨rfl, HB.out⟩
    · skip
      as_aux_lemma =>
        have HI : Hid (Calls Tryd.prog 13 #[.agg #[.int .i64 1, .int .i64 2, .int .i64 8, .int .i64 200, .int .i64 1, .int .i64 65, .int .i64 0, .int .u32 0, .slice s1 1 c1, .slice s2 1 c2, .slice s3 0 c3]] (w1.alloc (.cells #[.int .i64 1, .int .i64 2, .int .i64 8, .int .i64 200, .int .i64 1, .int .i64 65, .int .i64 0, .int .u32 0, .slice s1 1 c1, .slice s2 1 c2, .slice s3 0 c3] 27)) fun e w' => e = .returned (.bool false) ∧ Below (w1.alloc (.cells #[.int .i64 1, .int .i64 2, .int .i64 8, .int .i64 200, .int .i64 1, .int .i64 65, .int .i64 0, .int .u32 0, .slice s1 1 c1, .slice s2 1 c2, .slice s3 0 c3] 27)).heap.size (w1.alloc (.cells #[.int .i64 1, .int .i64 2, .int .i64 8, .int .i64 200, .int .i64 1, .int .i64 65, .int .i64 0, .int .u32 0, .slice s1 1 c1, .slice s2 1 c2, .slice s3 0 c3] 27)) w') := by
          have hb : Below w1.heap.size w1 (w1.alloc (.cells #[.int .i64 1, .int .i64 2, .int .i64 8, .int .i64 200, .int .i64 1, .int .i64 65, .int .i64 0, .int .u32 0, .slice s1 1 c1, .slice s2 1 c2, .slice s3 0 c3] 27)) := (Below.refl _ _).alloc (Nat.le_refl _) _
          exact S.is _ (⟨1, 2, 8, 200, 1, 65, 0, 0, [0], [⟨9, 1, false⟩], []⟩ : Mx.M) ⟨s1, c1, s2, c2, s3, c3⟩ (HQ.out _ (HA.out.trans (hb.mono HA.out.size))) ⟨(HM.out.on hb).l1, (HM.out.on hb).l2, (HM.out.on hb).l3⟩ ⟨by decide, by decide, by decide⟩ ⟨rfl, rfl, rfl, rfl, rfl, rfl, rfl, by decide, wf_least.masters, wf_least.messages, wf_least.windows⟩
        have HB : Hid (Below W.heap.size W (w1.alloc (.cells #[.int .i64 1, .int .i64 2, .int .i64 8, .int .i64 200, .int .i64 1, .int .i64 65, .int .i64 0, .int .u32 0, .slice s1 1 c1, .slice s2 1 c2, .slice s3 0 c3] 27))) := HA.out.alloc HA.out.size _
        go_wp2_with fail
        refine HI.out.mono ?_
        rintro e w2 ⟨rfl, hb2⟩
        replace HB : Hid (Below W.heap.size W w2) := HB.out.trans (hb2.mono HB.out.size)
        clear hb2 HI
        go_wp2
        go_ret
        exact ⟨rfl, HB.out⟩
  · cases mo
    · skip
      as_aux_lemma =>
        have HI : Hid (Calls Tryd.prog 13 #[.agg #[.int .i64 1, .int .i64 2, .int .i64 8, .int .i64 200, .int .i64 1, .int .i64 16, .int .i64 8000, .int .u32 0, .slice s1 1 c1, .slice s2 1 c2, .slice s3 0 c3]] (w1.alloc (.cells #[.int .i64 1, .int .i64 2, .int .i64 8, .int .i64 200, .int .i64 1, .int .i64 16, .int .i64 8000, .int .u32 0, .slice s1 1 c1, .slice s2 1 c2, .slice s3 0 c3] 27)) fun e w' => e = .returned (.bool true) ∧ Below (w1.alloc (.cells #[.int .i64 1, .int .i64 2, .int .i64 8, .int .i64 200, .int .i64 1, .int .i64 16, .int .i64 8000, .int .u32 0, .slice s1 1 c1, .slice s2 1 c2, .slice s3 0 c3] 27)).heap.size (w1.alloc (.cells #[.int .i64 1, .int .i64 2, .int .i64 8, .int .i64 200, .int .i64 1, .int .i64 16, .int .i64 8000, .int .u32 0, .slice s1 1 c1, .slice s2 1 c2, .slice s3 0 c3] 27)) w') := by
          have hb : Below w1.heap.size w1 (w1.alloc (.cells #[.int .i64 1, .int .i64 2, .int .i64 8, .int .i64 200, .int .i64 1, .int .i64 16, .int .i64 8000, .int .u32 0, .slice s1 1 c1, .slice s2 1 c2, .slice s3 0 c3] 27)) := (Below.refl _ _).alloc (Nat.le_refl _) _
          exact S.is _ (⟨1, 2, 8, 200, 1, 16, 8000, 0, [0], [⟨9, 1, false⟩], []⟩ : Mx.M) ⟨s1, c1, s2, c2, s3, c3⟩ (HQ.out _ (HA.out.trans (hb.mono HA.out.size))) ⟨(HM.out.on hb).l1, (HM.out.on hb).l2, (HM.out.on hb).l3⟩ ⟨by decide, by decide, by decide⟩ ⟨rfl, rfl, rfl, rfl, rfl, rfl, rfl, by decide, wf_least.masters, wf_least.messages, wf_least.windows⟩
        have HB : Hid (Below W.heap.size W (w1.alloc (.cells #[.int .i64 1, .int .i64 2, .int .i64 8, .int .i64 200, .int .i64 1, .int .i64 16, .int .i64 8000, .int .u32 0, .slice s1 1 c1, .slice s2 1 c2, .slice s3 0 c3] 27))) := HA.out.alloc HA.out.size _
        go_wp2_with fail
        refine HI.out.mono ?_
        rintro e w2 ⟨rfl, hb2⟩
        replace HB : Hid (Below W.heap.size W w2) := HB.out.trans (hb2.mono HB.out.size)
        clear hb2 HI
        go_wp2
        go_ret
        exact ⟨rfl, HB.out⟩
    · skip
      as_aux_lemma =>
        have HI : Hid (Calls Tryd.prog 13 #[.agg #[.int .i64 1, .int .i64 2, .int .i64 8, .int .i64 200, .int .i64 1, .int .i64 16, .int .i64 8001, .int .u32 0, .slice s1 1 c1, .slice s2 1 c2, .slice s3 0 c3]] (w1.alloc (.cells #[.int .i64 1, .int .i64 2, .int .i64 8, .int .i64 200, .int .i64 1, .int .i64 16, .int .i64 8001, .int .u32 0, .slice s1 1 c1, .slice s2 1 c2, .slice s3 0 c3] 27)) fun e w' => e = .returned (.bool false) ∧ Below (w1.alloc (.cells #[.int .i64 1, .int .i64 2, .int .i64 8, .int .i64 200, .int .i64 1, .int .i64 16, .int .i64 8001, .int .u32 0, .slice s1 1 c1, .slice s2 1 c2, .slice s3 0 c3] 27)).heap.size (w1.alloc (.cells #[.int .i64 1, .int .i64 2, .int .i64 8, .int .i64 200, .int .i64 1, .int .i64 16, .int .i64 8001, .int .u32 0, .slice s1 1 c1, .slice s2 1 c2, .slice s3 0 c3] 27)) w') := by
          have hb : Below w1.heap.size w1 (w1.alloc (.cells #[.int .i64 1, .int .i64 2, .int .i64 8, .int .i64 200, .int .i64 1, .int .i64 16, .int .i64 8001, .int .u32 0, .slice s1 1 c1, .slice s2 1 c2, .slice s3 0 c3] 27)) := (Below.refl _ _).alloc (Nat.le_refl _) _
          exact S.is _ (⟨1, 2, 8, 200, 1, 16, 8001, 0, [0], [⟨9, 1, false⟩], []⟩ : Mx.M) ⟨s1, c1, s2, c2, s3, c3⟩ (HQ.out _ (HA.out.trans (hb.mono HA.out.size))) ⟨(HM.out.on hb).l1, (HM.out.on hb).l2, (HM.out.on hb).l3⟩ ⟨by decide, by decide, by decide⟩ ⟨rfl, rfl, rfl, rfl, rfl, rfl, rfl, by decide, wf_least.masters, wf_least.messages, wf_least.windows⟩
        have HB : Hid (Below W.heap.size W (w1.alloc (.cells #[.int .i64 1, .int .i64 2, .int .i64 8, .int .i64 200, .int .i64 1, .int .i64 16, .int .i64 8001, .int .u32 0, .slice s1 1 c1, .slice s2 1 c2, .slice s3 0 c3] 27))) := HA.out.alloc HA.out.size _
        go_wp2_with fail
        refine HI.out.mono ?_
        rintro e w2 ⟨rfl, hb2⟩
        replace HB : Hid (Below W.heap.size W w2) := HB.out.trans (hb2.mono HB.out.size)
        clear hb2 HI
        go_wp2
        go_ret
        exact ⟨rfl, HB.out⟩
  · cases mo
    · skip
      as_aux_lemma =>
        have HI : Hid (Calls Tryd.prog 13 #[.agg #[.int .i64 1, .int .i64 2, .int .i64 8, .int .i64 200, .int .i64 1, .int .i64 16, .int .i64 0, .int .u32 2040, .slice s1 1 c1, .slice s2 1 c2, .slice s3 0 c3]] (w1.alloc (.cells #[.int .i64 1, .int .i64 2, .int .i64 8, .int .i64 200, .int .i64 1, .int .i64 16, .int .i64 0, .int .u32 2040, .slice s1 1 c1, .slice s2 1 c2, .slice s3 0 c3] 27)) fun e w' => e = .returned (.bool true) ∧ Below (w1.alloc (.cells #[.int .i64 1, .int .i64 2, .int .i64 8, .int .i64 200, .int .i64 1, .int .i64 16, .int .i64 0, .int .u32 2040, .slice s1 1 c1, .slice s2 1 c2, .slice s3 0 c3] 27)).heap.size (w1.alloc (.cells #[.int .i64 1, .int .i64 2, .int .i64 8, .int .i64 200, .int .i64 1, .int .i64 16, .int .i64 0, .int .u32 2040, .slice s1 1 c1, .slice s2 1 c2, .slice s3 0 c3] 27)) w') := by
          have hb : Below w1.heap.size w1 (w1.alloc (.cells #[.int .i64 1, .int .i64 2, .int .i64 8, .int .i64 200, .int .i64 1, .int .i64 16, .int .i64 0, .int .u32 2040, .slice s1 1 c1, .slice s2 1 c2, .slice s3 0 c3] 27)) := (Below.refl _ _).alloc (Nat.le_refl _) _
          exact S.is _ (⟨1, 2, 8, 200, 1, 16, 0, 2040, [0], [⟨9, 1, false⟩], []⟩ : Mx.M) ⟨s1, c1, s2, c2, s3, c3⟩ (HQ.out _ (HA.out.trans (hb.mono HA.out.size))) ⟨(HM.out.on hb).l1, (HM.out.on hb).l2, (HM.out.on hb).l3⟩ ⟨by decide, by decide, by decide⟩ ⟨rfl, rfl, rfl, rfl, rfl, rfl, rfl, by decide, wf_least.masters, wf_least.messages, wf_least.windows⟩
        have HB : Hid (Below W.heap.size W (w1.alloc (.cells #[.int .i64 1, .int .i64 2, .int .i64 8, .int .i64 200, .int .i64 1, .int .i64 16, .int .i64 0, .int .u32 2040, .slice s1 1 c1, .slice s2 1 c2, .slice s3 0 c3] 27))) := HA.out.alloc HA.out.size _
        go_wp2_with fail
        refine HI.out.mono ?_
        rintro e w2 ⟨rfl, hb2⟩
        replace HB : Hid (Below W.heap.size W w2) := HB.out.trans (hb2.mono HB.out.size)
        clear hb2 HI
        go_wp2
        go_ret
        exact ⟨rfl, HB.out⟩
    · skip
      as_aux_lemma =>
        have HI : Hid (Calls Tryd.prog 13 #[.agg #[.int .i64 1, .int .i64 2, .int .i64 8, .int .i64 200, .int .i64 1, .int .i64 16, .int .i64 0, .int .u32 2048, .slice s1 1 c1, .slice s2 1 c2, .slice s3 0 c3]] (w1.alloc (.cells #[.int .i64 1, .int .i64 2, .int .i64 8, .int .i64 200, .int .i64 1, .int .i64 16, .int .i64 0, .int .u32 2048, .slice s1 1 c1, .slice s2 1 c2, .slice s3 0 c3] 27)) fun e w' => e = .returned (.bool false) ∧ Below (w1.alloc (.cells #[.int .i64 1, .int .i64 2, .int .i64 8, .int .i64 200, .int .i64 1, .int .i64 16, .int .i64 0, .int .u32 2048, .slice s1 1 c1, .slice s2 1 c2, .slice s3 0 c3] 27)).heap.size (w1.alloc (.cells #[.int .i64 1, .int .i64 2, .int .i64 8, .int .i64 200, .int .i64 1, .int .i64 16, .int .i64 0, .int .u32 2048, .slice s1 1 c1, .slice s2 1 c2, .slice s3 0 c3] 27)) w') := by
          have hb : Below w1.heap.size w1 (w1.alloc (.cells #[.int .i64 1, .int .i64 2, .int .i64 8, .int .i64 200, .int .i64 1, .int .i64 16, .int .i64 0, .int .u32 2048, .slice s1 1 c1, .slice s2 1 c2, .slice s3 0 c3] 27)) := (Below.refl _ _).alloc (Nat.le_refl _) _
          exact S.is _ (⟨1, 2, 8, 200, 1, 16, 0, 2048, [0], [⟨9, 1, false⟩], []⟩ : Mx.M) ⟨s1, c1, s2, c2, s3, c3⟩ (HQ.out _ (HA.out.trans (hb.mono HA.out.size))) ⟨(HM.out.on hb).l1, (HM.out.on hb).l2, (HM.out.on hb).l3⟩ ⟨by decide, by decide, by decide⟩ ⟨rfl, rfl, rfl, rfl, rfl, rfl, rfl, by decide, wf_least.masters, wf_least.messages, wf_least.windows⟩
        have HB : Hid (Below W.heap.size W (w1.alloc (.cells #[.int .i64 1, .int .i64 2, .int .i64 8, .int .i64 200, .int .i64 1, .int .i64 16, .int .i64 0, .int .u32 2048, .slice s1 1 c1, .slice s2 1 c2, .slice s3 0 c3] 27))) := HA.out.alloc HA.out.size _
        go_wp2_with fail
        refine HI.out.mono ?_
        rintro e w2 ⟨rfl, hb2⟩
        replace HB : Hid (Below W.heap.size W w2) := HB.out.trans (hb2.mono HB.out.size)
        clear hb2 HI
        go_wp2
        go_ret
        exact ⟨rfl, HB.out⟩
  · cases mo
    · skip
      skip
      have hmk := make_int 4 4 rfl (by decide)
      rw [show madeCells #[.int .i64 0] 4 = #[.int .i64 0, .int .i64 0, .int .i64 0, .int .i64 0] from by kernel_rfl] at hmk
      have HB : Hid (Below W.heap.size W ((w1.alloc (.cells #[.int .i64 1, .int .i64 2, .int .i64 8, .int .i64 200, .int .i64 1, .int .i64 16, .int .i64 0, .int .u32 0, .slice (some ⟨w1.heap.size + 1, 0, none⟩) 4 4, .slice s2 1 c2, .slice s3 0 c3] 27)).alloc (.cells #[.int .i64 0, .int .i64 0, .int .i64 0, .int .i64 0] 3))) := (HA.out.alloc HA.out.size _).alloc (by simp; have := HA.out.size; omega) _
      have HI : Hid (Calls Tryd.prog 13 #[.agg #[.int .i64 1, .int .i64 2, .int .i64 8, .int .i64 200, .int .i64 1, .int .i64 16, .int .i64 0, .int .u32 0, .slice (some ⟨w1.heap.size + 1, 0, none⟩) 4 4, .slice s2 1 c2, .slice s3 0 c3]] ((w1.alloc (.cells #[.int .i64 1, .int .i64 2, .int .i64 8, .int .i64 200, .int .i64 1, .int .i64 16, .int .i64 0, .int .u32 0, .slice (some ⟨w1.heap.size + 1, 0, none⟩) 4 4, .slice s2 1 c2, .slice s3 0 c3] 27)).alloc (.cells #[.int .i64 0, .int .i64 0, .int .i64 0, .int .i64 0] 3)) fun e w' => e = .returned (.bool true) ∧ Below ((w1.alloc (.cells #[.int .i64 1, .int .i64 2, .int .i64 8, .int .i64 200, .int .i64 1, .int .i64 16, .int .i64 0, .int .u32 0, .slice (some ⟨w1.heap.size + 1, 0, none⟩) 4 4, .slice s2 1 c2, .slice s3 0 c3] 27)).alloc (.cells #[.int .i64 0, .int .i64 0, .int .i64 0, .int .i64 0] 3)).heap.size ((w1.alloc (.cells #[.int .i64 1, .int .i64 2, .int .i64 8, .int .i64 200, .int .i64 1, .int .i64 16, .int .i64 0, .int .u32 0, .slice (some ⟨w1.heap.size + 1, 0, none⟩) 4 4, .slice s2 1 c2, .slice s3 0 c3] 27)).alloc (.cells #[.int .i64 0, .int .i64 0, .int .i64 0, .int .i64 0] 3)) w') := by
        have hb1 : Below w1.heap.size w1 (w1.alloc (.cells #[.int .i64 1, .int .i64 2, .int .i64 8, .int .i64 200, .int .i64 1, .int .i64 16, .int .i64 0, .int .u32 0, .slice (some ⟨w1.heap.size + 1, 0, none⟩) 4 4, .slice s2 1 c2, .slice s3 0 c3] 27)) := (Below.refl _ _).alloc (Nat.le_refl _) _
        have hb2 : Below (w1.alloc (.cells #[.int .i64 1, .int .i64 2, .int .i64 8, .int .i64 200, .int .i64 1, .int .i64 16, .int .i64 0, .int .u32 0, .slice (some ⟨w1.heap.size + 1, 0, none⟩) 4 4, .slice s2 1 c2, .slice s3 0 c3] 27)).heap.size (w1.alloc (.cells #[.int .i64 1, .int .i64 2, .int .i64 8, .int .i64 200, .int .i64 1, .int .i64 16, .int .i64 0, .int .u32 0, .slice (some ⟨w1.heap.size + 1, 0, none⟩) 4 4, .slice s2 1 c2, .slice s3 0 c3] 27)) ((w1.alloc (.cells #[.int .i64 1, .int .i64 2, .int .i64 8, .int .i64 200, .int .i64 1, .int .i64 16, .int .i64 0, .int .u32 0, .slice (some ⟨w1.heap.size + 1, 0, none⟩) 4 4, .slice s2 1 c2, .slice s3 0 c3] 27)).alloc (.cells #[.int .i64 0, .int .i64 0, .int .i64 0, .int .i64 0] 3)) := (Below.refl _ _).alloc (Nat.le_refl _) _
        have hbb : Below w1.heap.size w1 ((w1.alloc (.cells #[.int .i64 1, .int .i64 2, .int .i64 8, .int .i64 200, .int .i64 1, .int .i64 16, .int .i64 0, .int .u32 0, .slice (some ⟨w1.heap.size + 1, 0, none⟩) 4 4, .slice s2 1 c2, .slice s3 0 c3] 27)).alloc (.cells #[.int .i64 0, .int .i64 0, .int .i64 0, .int .i64 0] 3)) := hb1.trans (hb2.mono hb1.size)
        have hn : ((w1.alloc (.cells #[.int .i64 1, .int .i64 2, .int .i64 8, .int .i64 200, .int .i64 1, .int .i64 16, .int .i64 0, .int .u32 0, .slice (some ⟨w1.heap.size + 1, 0, none⟩) 4 4, .slice s2 1 c2, .slice s3 0 c3] 27)).alloc (.cells #[.int .i64 0, .int .i64 0, .int .i64 0, .int .i64 0] 3)).heap[w1.heap.size + 1]? = some (.cells #[.int .i64 0, .int .i64 0, .int .i64 0, .int .i64 0] 3 (0, 0)) := by
          have := heap_alloc_new (w1.alloc (.cells #[.int .i64 1, .int .i64 2, .int .i64 8, .int .i64 200, .int .i64 1, .int .i64 16, .int .i64 0, .int .u32 0, .slice (some ⟨w1.heap.size + 1, 0, none⟩) 4 4, .slice s2 1 c2, .slice s3 0 c3] 27)) (.cells #[.int .i64 0, .int .i64 0, .int .i64 0, .int .i64 0] 3)
          rwa [show (w1.alloc (.cells #[.int .i64 1, .int .i64 2, .int .i64 8, .int .i64 200, .int .i64 1, .int .i64 16, .int .i64 0, .int .u32 0, .slice (some ⟨w1.heap.size + 1, 0, none⟩) 4 4, .slice s2 1 c2, .slice s3 0 c3] 27)).heap.size = w1.heap.size + 1 by simp] at this
        exact S.is _ (⟨1, 2, 8, 200, 1, 16, 0, 0, [0, 0, 0, 0], [⟨9, 1, false⟩], []⟩ : Mx.M) (⟨(some ⟨w1.heap.size + 1, 0, none⟩), 4, s2, c2, s3, c3⟩ : Ma) (HQ.out _ HB.out) ⟨li_new (n := 4) hn (by decide) rfl, (HM.out.on hbb).l2, (HM.out.on hbb).l3⟩ ⟨by decide, by decide, by decide⟩ ⟨rfl, rfl, rfl, rfl, rfl, rfl, rfl, by decide, (fun x hx => by simp at hx; subst hx; rfl), wf_least.messages, wf_least.windows⟩
      go_wp2_with fail
      refine HI.out.mono ?_
      rintro e w2 ⟨rfl, hb2⟩
      replace HB : Hid (Below W.heap.size W w2) := HB.out.trans (hb2.mono HB.out.size)
      clear hb2 HI
      go_wp2
      go_ret
      exact ⟨rfl, HB.out⟩
    · skip
      skip
      have hmk := make_int 5 5 rfl (by decide)
      rw [show madeCells #[.int .i64 0] 5 = #[.int .i64 0, .int .i64 0, .int .i64 0, .int .i64 0, .int .i64 0] from by kernel_rfl] at hmk
      have HB : Hid (Below W.heap.size W ((w1.alloc (.cells #[.int .i64 1, .int .i64 2, .int .i64 8, .int .i64 200, .int .i64 1, .int .i64 16, .int .i64 0, .int .u32 0, .slice (some ⟨w1.heap.size + 1, 0, none⟩) 5 5, .slice s2 1 c2, .slice s3 0 c3] 27)).alloc (.cells #[.int .i64 0, .int .i64 0, .int .i64 0, .int .i64 0, .int .i64 0] 3))) := (HA.out.alloc HA.out.size _).alloc (by simp; have := HA.out.size; omega) _
      have HI : Hid (Calls Tryd.prog 13 #[.agg #[.int .i64 1, .int .i64 2, .int .i64 8, .int .i64 200, .int .i64 1, .int .i64 16, .int .i64 0, .int .u32 0, .slice (some ⟨w1.heap.size + 1, 0, none⟩) 5 5, .slice s2 1 c2, .slice s3 0 c3]] ((w1.alloc (.cells #[.int .i64 1, .int .i64 2, .int .i64 8, .int .i64 200, .int .i64 1, .int .i64 16, .int .i64 0, .int .u32 0, .slice (some ⟨w1.heap.size + 1, 0, none⟩) 5 5, .slice s2 1 c2, .slice s3 0 c3] 27)).alloc (.cells #[.int .i64 0, .int .i64 0, .int .i64 0, .int .i64 0, .int .i64 0] 3)) fun e w' => e = .returned (.bool false) ∧ Below ((w1.alloc (.cells #[.int .i64 1, .int .i64 2, .int .i64 8, .int .i64 200, .int .i64 1, .int .i64 16, .int .i64 0, .int .u32 0, .slice (some ⟨w1.heap.size + 1, 0, none⟩) 5 5, .slice s2 1 c2, .slice s3 0 c3] 27)).alloc (.cells #[.int .i64 0, .int .i64 0, .int .i64 0, .int .i64 0, .int .i64 0] 3)).heap.size ((w1.alloc (.cells #[.int .i64 1, .int .i64 2, .int .i64 8, .int .i64 200, .int .i64 1, .int .i64 16, .int .i64 0, .int .u32 0, .slice (some ⟨w1.heap.size + 1, 0, none⟩) 5 5, .slice s2 1 c2, .slice s3 0 c3] 27)).alloc (.cells #[.int .i64 0, .int .i64 0, .int .i64 0, .int .i64 0, .int .i64 0] 3)) w') := by
        have hb1 : Below w1.heap.size w1 (w1.alloc (.cells #[.int .i64 1, .int .i64 2, .int .i64 8, .int .i64 200, .int .i64 1, .int .i64 16, .int .i64 0, .int .u32 0, .slice (some ⟨w1.heap.size + 1, 0, none⟩) 5 5, .slice s2 1 c2, .slice s3 0 c3] 27)) := (Below.refl _ _).alloc (Nat.le_refl _) _
        have hb2 : Below (w1.alloc (.cells #[.int .i64 1, .int .i64 2, .int .i64 8, .int .i64 200, .int .i64 1, .int .i64 16, .int .i64 0, .int .u32 0, .slice (some ⟨w1.heap.size + 1, 0, none⟩) 5 5, .slice s2 1 c2, .slice s3 0 c3] 27)).heap.size (w1.alloc (.cells #[.int .i64 1, .int .i64 2, .int .i64 8, .int .i64 200, .int .i64 1, .int .i64 16, .int .i64 0, .int .u32 0, .slice (some ⟨w1.heap.size + 1, 0, none⟩) 5 5, .slice s2 1 c2, .slice s3 0 c3] 27)) ((w1.alloc (.cells #[.int .i64 1, .int .i64 2, .int .i64 8, .int .i64 200, .int .i64 1, .int .i64 16, .int .i64 0, .int .u32 0, .slice (some ⟨w1.heap.size + 1, 0, none⟩) 5 5, .slice s2 1 c2, .slice s3 0 c3] 27)).alloc (.cells #[.int .i64 0, .int .i64 0, .int .i64 0, .int .i64 0, .int .i64 0] 3)) := (Below.refl _ _).alloc (Nat.le_refl _) _
        have hbb : Below w1.heap.size w1 ((w1.alloc (.cells #[.int .i64 1, .int .i64 2, .int .i64 8, .int .i64 200, .int .i64 1, .int .i64 16, .int .i64 0, .int .u32 0, .slice (some ⟨w1.heap.size + 1, 0, none⟩) 5 5, .slice s2 1 c2, .slice s3 0 c3] 27)).alloc (.cells #[.int .i64 0, .int .i64 0, .int .i64 0, .int .i64 0, .int .i64 0] 3)) := hb1.trans (hb2.mono hb1.size)
        have hn : ((w1.alloc (.cells #[.int .i64 1, .int .i64 2, .int .i64 8, .int .i64 200, .int .i64 1, .int .i64 16, .int .i64 0, .int .u32 0, .slice (some ⟨w1.heap.size + 1, 0, none⟩) 5 5, .slice s2 1 c2, .slice s3 0 c3] 27)).alloc (.cells #[.int .i64 0, .int .i64 0, .int .i64 0, .int .i64 0, .int .i64 0] 3)).heap[w1.heap.size + 1]? = some (.cells #[.int .i64 0, .int .i64 0, .int .i64 0, .int .i64 0, .int .i64 0] 3 (0, 0)) := by
          have := heap_alloc_new (w1.alloc (.cells #[.int .i64 1, .int .i64 2, .int .i64 8, .int .i64 200, .int .i64 1, .int .i64 16, .int .i64 0, .int .u32 0, .slice (some ⟨w1.heap.size + 1, 0, none⟩) 5 5, .slice s2 1 c2, .slice s3 0 c3] 27)) (.cells #[.int .i64 0, .int .i64 0, .int .i64 0, .int .i64 0, .int .i64 0] 3)
          rwa [show (w1.alloc (.cells #[.int .i64 1, .int .i64 2, .int .i64 8, .int .i64 200, .int .i64 1, .int .i64 16, .int .i64 0, .int .u32 0, .slice (some ⟨w1.heap.size + 1, 0, none⟩) 5 5, .slice s2 1 c2, .slice s3 0 c3] 27)).heap.size = w1.heap.size + 1 by simp] at this
        exact S.is _ (⟨1, 2, 8, 200, 1, 16, 0, 0, [0, 0, 0, 0, 0], [⟨9, 1, false⟩], []⟩ : Mx.M) (⟨(some ⟨w1.heap.size + 1, 0, none⟩), 5, s2, c2, s3, c3⟩ : Ma) (HQ.out _ HB.out) ⟨li_new (n := 5) hn (by decide) rfl, (HM.out.on hbb).l2, (HM.out.on hbb).l3⟩ ⟨by decide, by decide, by decide⟩ ⟨rfl, rfl, rfl, rfl, rfl, rfl, rfl, by decide, (fun x hx => by simp at hx; subst hx; rfl), wf_least.messages, wf_least.windows⟩
      go_wp2_with fail
      refine HI.out.mono ?_
      rintro e w2 ⟨rfl, hb2⟩
      replace HB : Hid (Below W.heap.size W w2) := HB.out.trans (hb2.mono HB.out.size)
      clear hb2 HI
      go_wp2
      go_ret
      exact ⟨rfl, HB.out⟩
  · cases mo
    · skip
      skip
      have hmk := make_msg 12 12 rfl (by decide)
      rw [show madeCells #[.int .u32 0, .int .i64 0, .bool false] (12 * 3) = #[.int .u32 0, .int .i64 0, .bool false, .int .u32 0, .int .i64 0, .bool false, .int .u32 0, .int .i64 0, .bool false, .int .u32 0, .int .i64 0, .bool false, .int .u32 0, .int .i64 0, .bool false, .int .u32 0, .int .i64 0, .bool false, .int .u32 0, .int .i64 0, .bool false, .int .u32 0, .int .i64 0, .bool false, .int .u32 0, .int .i64 0, .bool false, .int .u32 0, .int .i64 0, .bool false, .int .u32 0, .int .i64 0, .bool false, .int .u32 0, .int .i64 0, .bool false] from by kernel_rfl] at hmk
      have HB : Hid (Below W.heap.size W ((w1.alloc (.cells #[.int .i64 1, .int .i64 2, .int .i64 8, .int .i64 200, .int .i64 1, .int .i64 16, .int .i64 0, .int .u32 0, .slice s1 1 c1, .slice (some ⟨w1.heap.size + 1, 0, none⟩) 12 12, .slice s3 0 c3] 27)).alloc (.cells #[.int .u32 0, .int .i64 0, .bool false, .int .u32 0, .int .i64 0, .bool false, .int .u32 0, .int .i64 0, .bool false, .int .u32 0, .int .i64 0, .bool false, .int .u32 0, .int .i64 0, .bool false, .int .u32 0, .int .i64 0, .bool false, .int .u32 0, .int .i64 0, .bool false, .int .u32 0, .int .i64 0, .bool false, .int .u32 0, .int .i64 0, .bool false, .int .u32 0, .int .i64 0, .bool false, .int .u32 0, .int .i64 0, .bool false, .int .u32 0, .int .i64 0, .bool false] 41))) := (HA.out.alloc HA.out.size _).alloc (by simp; have := HA.out.size; omega) _
      have HI : Hid (Calls Tryd.prog 13 #[.agg #[.int .i64 1, .int .i64 2, .int .i64 8, .int .i64 200, .int .i64 1, .int .i64 16, .int .i64 0, .int .u32 0, .slice s1 1 c1, .slice (some ⟨w1.heap.size + 1, 0, none⟩) 12 12, .slice s3 0 c3]] ((w1.alloc (.cells #[.int .i64 1, .int .i64 2, .int .i64 8, .int .i64 200, .int .i64 1, .int .i64 16, .int .i64 0, .int .u32 0, .slice s1 1 c1, .slice (some ⟨w1.heap.size + 1, 0, none⟩) 12 12, .slice s3 0 c3] 27)).alloc (.cells #[.int .u32 0, .int .i64 0, .bool false, .int .u32 0, .int .i64 0, .bool false, .int .u32 0, .int .i64 0, .bool false, .int .u32 0, .int .i64 0, .bool false, .int .u32 0, .int .i64 0, .bool false, .int .u32 0, .int .i64 0, .bool false, .int .u32 0, .int .i64 0, .bool false, .int .u32 0, .int .i64 0, .bool false, .int .u32 0, .int .i64 0, .bool false, .int .u32 0, .int .i64 0, .bool false, .int .u32 0, .int .i64 0, .bool false, .int .u32 0, .int .i64 0, .bool false] 41)) fun e w' => e = .returned (.bool true) ∧ Below ((w1.alloc (.cells #[.int .i64 1, .int .i64 2, .int .i64 8, .int .i64 200, .int .i64 1, .int .i64 16, .int .i64 0, .int .u32 0, .slice s1 1 c1, .slice (some ⟨w1.heap.size + 1, 0, none⟩) 12 12, .slice s3 0 c3] 27)).alloc (.cells #[.int .u32 0, .int .i64 0, .bool false, .int .u32 0, .int .i64 0, .bool false, .int .u32 0, .int .i64 0, .bool false, .int .u32 0, .int .i64 0, .bool false, .int .u32 0, .int .i64 0, .bool false, .int .u32 0, .int .i64 0, .bool false, .int .u32 0, .int .i64 0, .bool false, .int .u32 0, .int .i64 0, .bool false, .int .u32 0, .int .i64 0, .bool false, .int .u32 0, .int .i64 0, .bool false, .int .u32 0, .int .i64 0, .bool false, .int .u32 0, .int .i64 0, .bool false] 41)).heap.size ((w1.alloc (.cells #[.int .i64 1, .int .i64 2, .int .i64 8, .int .i64 200, .int .i64 1, .int .i64 16, .int .i64 0, .int .u32 0, .slice s1 1 c1, .slice (some ⟨w1.heap.size + 1, 0, none⟩) 12 12, .slice s3 0 c3] 27)).alloc (.cells #[.int .u32 0, .int .i64 0, .bool false, .int .u32 0, .int .i64 0, .bool false, .int .u32 0, .int .i64 0, .bool false, .int .u32 0, .int .i64 0, .bool false, .int .u32 0, .int .i64 0, .bool false, .int .u32 0, .int .i64 0, .bool false, .int .u32 0, .int .i64 0, .bool false, .int .u32 0, .int .i64 0, .bool false, .int .u32 0, .int .i64 0, .bool false, .int .u32 0, .int .i64 0, .bool false, .int .u32 0, .int .i64 0, .bool false, .int .u32 0, .int .i64 0, .bool false] 41)) w') := by
        have hb1 : Below w1.heap.size w1 (w1.alloc (.cells #[.int .i64 1, .int .i64 2, .int .i64 8, .int .i64 200, .int .i64 1, .int .i64 16, .int .i64 0, .int .u32 0, .slice s1 1 c1, .slice (some ⟨w1.heap.size + 1, 0, none⟩) 12 12, .slice s3 0 c3] 27)) := (Below.refl _ _).alloc (Nat.le_refl _) _
        have hb2 : Below (w1.alloc (.cells #[.int .i64 1, .int .i64 2, .int .i64 8, .int .i64 200, .int .i64 1, .int .i64 16, .int .i64 0, .int .u32 0, .slice s1 1 c1, .slice (some ⟨w1.heap.size + 1, 0, none⟩) 12 12, .slice s3 0 c3] 27)).heap.size (w1.alloc (.cells #[.int .i64 1, .int .i64 2, .int .i64 8, .int .i64 200, .int .i64 1, .int .i64 16, .int .i64 0, .int .u32 0, .slice s1 1 c1, .slice (some ⟨w1.heap.size + 1, 0, none⟩) 12 12, .slice s3 0 c3] 27)) ((w1.alloc (.cells #[.int .i64 1, .int .i64 2, .int .i64 8, .int .i64 200, .int .i64 1, .int .i64 16, .int .i64 0, .int .u32 0, .slice s1 1 c1, .slice (some ⟨w1.heap.size + 1, 0, none⟩) 12 12, .slice s3 0 c3] 27)).alloc (.cells #[.int .u32 0, .int .i64 0, .bool false, .int .u32 0, .int .i64 0, .bool false, .int .u32 0, .int .i64 0, .bool false, .int .u32 0, .int .i64 0, .bool false, .int .u32 0, .int .i64 0, .bool false, .int .u32 0, .int .i64 0, .bool false, .int .u32 0, .int .i64 0, .bool false, .int .u32 0, .int .i64 0, .bool false, .int .u32 0, .int .i64 0, .bool false, .int .u32 0, .int .i64 0, .bool false, .int .u32 0, .int .i64 0, .bool false, .int .u32 0, .int .i64 0, .bool false] 41)) := (Below.refl _ _).alloc (Nat.le_refl _) _
        have hbb : Below w1.heap.size w1 ((w1.alloc (.cells #[.int .i64 1, .int .i64 2, .int .i64 8, .int .i64 200, .int .i64 1, .int .i64 16, .int .i64 0, .int .u32 0, .slice s1 1 c1, .slice (some ⟨w1.heap.size + 1, 0, none⟩) 12 12, .slice s3 0 c3] 27)).alloc (.cells #[.int .u32 0, .int .i64 0, .bool false, .int .u32 0, .int .i64 0, .bool false, .int .u32 0, .int .i64 0, .bool false, .int .u32 0, .int .i64 0, .bool false, .int .u32 0, .int .i64 0, .bool false, .int .u32 0, .int .i64 0, .bool false, .int .u32 0, .int .i64 0, .bool false, .int .u32 0, .int .i64 0, .bool false, .int .u32 0, .int .i64 0, .bool false, .int .u32 0, .int .i64 0, .bool false, .int .u32 0, .int .i64 0, .bool false, .int .u32 0, .int .i64 0, .bool false] 41)) := hb1.trans (hb2.mono hb1.size)
        have hn : ((w1.alloc (.cells #[.int .i64 1, .int .i64 2, .int .i64 8, .int .i64 200, .int .i64 1, .int .i64 16, .int .i64 0, .int .u32 0, .slice s1 1 c1, .slice (some ⟨w1.heap.size + 1, 0, none⟩) 12 12, .slice s3 0 c3] 27)).alloc (.cells #[.int .u32 0, .int .i64 0, .bool false, .int .u32 0, .int .i64 0, .bool false, .int .u32 0, .int .i64 0, .bool false, .int .u32 0, .int .i64 0, .bool false, .int .u32 0, .int .i64 0, .bool false, .int .u32 0, .int .i64 0, .bool false, .int .u32 0, .int .i64 0, .bool false, .int .u32 0, .int .i64 0, .bool false, .int .u32 0, .int .i64 0, .bool false, .int .u32 0, .int .i64 0, .bool false, .int .u32 0, .int .i64 0, .bool false, .int .u32 0, .int .i64 0, .bool false] 41)).heap[w1.heap.size + 1]? = some (.cells #[.int .u32 0, .int .i64 0, .bool false, .int .u32 0, .int .i64 0, .bool false, .int .u32 0, .int .i64 0, .bool false, .int .u32 0, .int .i64 0, .bool false, .int .u32 0, .int .i64 0, .bool false, .int .u32 0, .int .i64 0, .bool false, .int .u32 0, .int .i64 0, .bool false, .int .u32 0, .int .i64 0, .bool false, .int .u32 0, .int .i64 0, .bool false, .int .u32 0, .int .i64 0, .bool false, .int .u32 0, .int .i64 0, .bool false, .int .u32 0, .int .i64 0, .bool false] 41 (0, 0)) := by
          have := heap_alloc_new (w1.alloc (.cells #[.int .i64 1, .int .i64 2, .int .i64 8, .int .i64 200, .int .i64 1, .int .i64 16, .int .i64 0, .int .u32 0, .slice s1 1 c1, .slice (some ⟨w1.heap.size + 1, 0, none⟩) 12 12, .slice s3 0 c3] 27)) (.cells #[.int .u32 0, .int .i64 0, .bool false, .int .u32 0, .int .i64 0, .bool false, .int .u32 0, .int .i64 0, .bool false, .int .u32 0, .int .i64 0, .bool false, .int .u32 0, .int .i64 0, .bool false, .int .u32 0, .int .i64 0, .bool false, .int .u32 0, .int .i64 0, .bool false, .int .u32 0, .int .i64 0, .bool false, .int .u32 0, .int .i64 0, .bool false, .int .u32 0, .int .i64 0, .bool false, .int .u32 0, .int .i64 0, .bool false, .int .u32 0, .int .i64 0, .bool false] 41)
          rwa [show (w1.alloc (.cells #[.int .i64 1, .int .i64 2, .int .i64 8, .int .i64 200, .int .i64 1, .int .i64 16, .int .i64 0, .int .u32 0, .slice s1 1 c1, .slice (some ⟨w1.heap.size + 1, 0, none⟩) 12 12, .slice s3 0 c3] 27)).heap.size = w1.heap.size + 1 by simp] at this
        exact S.is _ (⟨1, 2, 8, 200, 1, 16, 0, 0, [0], [⟨0, 0, false⟩, ⟨0, 0, false⟩, ⟨0, 0, false⟩, ⟨0, 0, false⟩, ⟨0, 0, false⟩, ⟨0, 0, false⟩, ⟨0, 0, false⟩, ⟨0, 0, false⟩, ⟨0, 0, false⟩, ⟨0, 0, false⟩, ⟨0, 0, false⟩, ⟨0, 0, false⟩], []⟩ : Mx.M) (⟨s1, c1, (some ⟨w1.heap.size + 1, 0, none⟩), 12, s3, c3⟩ : Ma) (HQ.out _ HB.out) ⟨(HM.out.on hbb).l1, li_new (n := 12) hn (by decide) rfl, (HM.out.on hbb).l3⟩ ⟨by decide, by decide, by decide⟩ ⟨rfl, rfl, rfl, rfl, rfl, rfl, rfl, by decide, wf_least.masters, (fun x hx => by simp at hx; subst hx; exact ⟨by decide, rfl⟩), wf_least.windows⟩
      go_wp2_with fail
      refine HI.out.mono ?_
      rintro e w2 ⟨rfl, hb2⟩
      replace HB : Hid (Below W.heap.size W w2) := HB.out.trans (hb2.mono HB.out.size)
      clear hb2 HI
      go_wp2
      go_ret
      exact ⟨rfl, HB.out⟩
    · skip
      skip
      have hmk := make_msg 13 13 rfl (by decide)
      rw [show madeCells #[.int .u32 0, .int .i64 0, .bool false] (13 * 3) = #[.int .u32 0, .int .i64 0, .bool false, .int .u32 0, .int .i64 0, .bool false, .int .u32 0, .int .i64 0, .bool false, .int .u32 0, .int .i64 0, .bool false, .int .u32 0, .int .i64 0, .bool false, .int .u32 0, .int .i64 0, .bool false, .int .u32 0, .int .i64 0, .bool false, .int .u32 0, .int .i64 0, .bool false, .int .u32 0, .int .i64 0, .bool false, .int .u32 0, .int .i64 0, .bool false, .int .u32 0, .int .i64 0, .bool false, .int .u32 0, .int .i64 0, .bool false, .int .u32 0, .int .i64 0, .bool false] from by kernel_rfl] at hmk
      have HB : Hid (Below W.heap.size W ((w1.alloc (.cells #[.int .i64 1, .int .i64 2, .int .i64 8, .int .i64 200, .int .i64 1, .int .i64 16, .int .i64 0, .int .u32 0, .slice s1 1 c1, .slice (some ⟨w1.heap.size + 1, 0, none⟩) 13 13, .slice s3 0 c3] 27)).alloc (.cells #[.int .u32 0, .int .i64 0, .bool false, .int .u32 0, .int .i64 0, .bool false, .int .u32 0, .int .i64 0, .bool false, .int .u32 0, .int .i64 0, .bool false, .int .u32 0, .int .i64 0, .bool false, .int .u32 0, .int .i64 0, .bool false, .int .u32 0, .int .i64 0, .bool false, .int .u32 0, .int .i64 0, .bool false, .int .u32 0, .int .i64 0, .bool false, .int .u32 0, .int .i64 0, .bool false, .int .u32 0, .int .i64 0, .bool false, .int .u32 0, .int .i64 0, .bool false, .int .u32 0, .int .i64 0, .bool false] 41))) := (HA.out.alloc HA.out.size _).alloc (by simp; have := HA.out.size; omega) _
      have HI : Hid (Calls Tryd.prog 13 #[.agg #[.int .i64 1, .int .i64 2, .int .i64 8, .int .i64 200, .int .i64 1, .int .i64 16, .int .i64 0, .int .u32 0, .slice s1 1 c1, .slice (some ⟨w1.heap.size + 1, 0, none⟩) 13 13, .slice s3 0 c3]] ((w1.alloc (.cells #[.int .i64 1, .int .i64 2, .int .i64 8, .int .i64 200, .int .i64 1, .int .i64 16, .int .i64 0, .int .u32 0, .slice s1 1 c1, .slice (some ⟨w1.heap.size + 1, 0, none⟩) 13 13, .slice s3 0 c3] 27)).alloc (.cells #[.int .u32 0, .int .i64 0, .bool false, .int .u32 0, .int .i64 0, .bool false, .int .u32 0, .int .i64 0, .bool false, .int .u32 0, .int .i64 0, .bool false, .int .u32 0, .int .i64 0, .bool false, .int .u32 0, .int .i64 0, .bool false, .int .u32 0, .int .i64 0, .bool false, .int .u32 0, .int .i64 0, .bool false, .int .u32 0, .int .i64 0, .bool false, .int .u32 0, .int .i64 0, .bool false, .int .u32 0, .int .i64 0, .bool false, .int .u32 0, .int .i64 0, .bool false, .int .u32 0, .int .i64 0, .bool false] 41)) fun e w' => e = .returned (.bool false) ∧ Below ((w1.alloc (.cells #[.int .i64 1, .int .i64 2, .int .i64 8, .int .i64 200, .int .i64 1, .int .i64 16, .int .i64 0, .int .u32 0, .slice s1 1 c1, .slice (some ⟨w1.heap.size + 1, 0, none⟩) 13 13, .slice s3 0 c3] 27)).alloc (.cells #[.int .u32 0, .int .i64 0, .bool false, .int .u32 0, .int .i64 0, .bool false, .int .u32 0, .int .i64 0, .bool false, .int .u32 0, .int .i64 0, .bool false, .int .u32 0, .int .i64 0, .bool false, .int .u32 0, .int .i64 0, .bool false, .int .u32 0, .int .i64 0, .bool false, .int .u32 0, .int .i64 0, .bool false, .int .u32 0, .int .i64 0, .bool false, .int .u32 0, .int .i64 0, .bool false, .int .u32 0, .int .i64 0, .bool false, .int .u32 0, .int .i64 0, .bool false, .int .u32 0, .int .i64 0, .bool false] 41)).heap.size ((w1.alloc (.cells #[.int .i64 1, .int .i64 2, .int .i64 8, .int .i64 200, .int .i64 1, .int .i64 16, .int .i64 0, .int .u32 0, .slice s1 1 c1, .slice (some ⟨w1.heap.size + 1, 0, none⟩) 13 13, .slice s3 0 c3] 27)).alloc (.cells #[.int .u32 0, .int .i64 0, .bool false, .int .u32 0, .int .i64 0, .bool false, .int .u32 0, .int .i64 0, .bool false, .int .u32 0, .int .i64 0, .bool false, .int .u32 0, .int .i64 0, .bool false, .int .u32 0, .int .i64 0, .bool false, .int .u32 0, .int .i64 0, .bool false, .int .u32 0, .int .i64 0, .bool false, .int .u32 0, .int .i64 0, .bool false, .int .u32 0, .int .i64 0, .bool false, .int .u32 0, .int .i64 0, .bool false, .int .u32 0, .int .i64 0, .bool false, .int .u32 0, .int .i64 0, .bool false] 41)) w') := by
        have hb1 : Below w1.heap.size w1 (w1.alloc (.cells #[.int .i64 1, .int .i64 2, .int .i64 8, .int .i64 200, .int .i64 1, .int .i64 16, .int .i64 0, .int .u32 0, .slice s1 1 c1, .slice (some ⟨w1.heap.size + 1, 0, none⟩) 13 13, .slice s3 0 c3] 27)) := (Below.refl _ _).alloc (Nat.le_refl _) _
        have hb2 : Below (w1.alloc (.cells #[.int .i64 1, .int .i64 2, .int .i64 8, .int .i64 200, .int .i64 1, .int .i64 16, .int .i64 0, .int .u32 0, .slice s1 1 c1, .slice (some ⟨w1.heap.size + 1, 0, none⟩) 13 13, .slice s3 0 c3] 27)).heap.size (w1.alloc (.cells #[.int .i64 1, .int .i64 2, .int .i64 8, .int .i64 200, .int .i64 1, .int .i64 16, .int .i64 0, .int .u32 0, .slice s1 1 c1, .slice (some ⟨w1.heap.size + 1, 0, none⟩) 13 13, .slice s3 0 c3] 27)) ((w1.alloc (.cells #[.int .i64 1, .int .i64 2, .int .i64 8, .int .i64 200, .int .i64 1, .int .i64 16, .int .i64 0, .int .u32 0, .slice s1 1 c1, .slice (some ⟨w1.heap.size + 1, 0, none⟩) 13 13, .slice s3 0 c3] 27)).alloc (.cells #[.int .u32 0, .int .i64 0, .bool false, .int .u32 0, .int .i64 0, .bool false, .int .u32 0, .int .i64 0, .bool false, .int .u32 0, .int .i64 0, .bool false, .int .u32 0, .int .i64 0, .bool false, .int .u32 0, .int .i64 0, .bool false, .int .u32 0, .int .i64 0, .bool false, .int .u32 0, .int .i64 0, .bool false, .int .u32 0, .int .i64 0, .bool false, .int .u32 0, .int .i64 0, .bool false, .int .u32 0, .int .i64 0, .bool false, .int .u32 0, .int .i64 0, .bool false, .int .u32 0, .int .i64 0, .bool false] 41)) := (Below.refl _ _).alloc (Nat.le_refl _) _
        have hbb : Below w1.heap.size w1 ((w1.alloc (.cells #[.int .i64 1, .int .i64 2, .int .i64 8, .int .i64 200, .int .i64 1, .int .i64 16, .int .i64 0, .int .u32 0, .slice s1 1 c1, .slice (some ⟨w1.heap.size + 1, 0, none⟩) 13 13, .slice s3 0 c3] 27)).alloc (.cells #[.int .u32 0, .int .i64 0, .bool false, .int .u32 0, .int .i64 0, .bool false, .int .u32 0, .int .i64 0, .bool false, .int .u32 0, .int .i64 0, .bool false, .int .u32 0, .int .i64 0, .bool false, .int .u32 0, .int .i64 0, .bool false, .int .u32 0, .int .i64 0, .bool false, .int .u32 0, .int .i64 0, .bool false, .int .u32 0, .int .i64 0, .bool false, .int .u32 0, .int .i64 0, .bool false, .int .u32 0, .int .i64 0, .bool false, .int .u32 0, .int .i64 0, .bool false, .int .u32 0, .int .i64 0, .bool false] 41)) := hb1.trans (hb2.mono hb1.size)
        have hn : ((w1.alloc (.cells #[.int .i64 1, .int .i64 2, .int .i64 8, .int .i64 200, .int .i64 1, .int .i64 16, .int .i64 0, .int .u32 0, .slice s1 1 c1, .slice (some ⟨w1.heap.size + 1, 0, none⟩) 13 13, .slice s3 0 c3] 27)).alloc (.cells #[.int .u32 0, .int .i64 0, .bool false, .int .u32 0, .int .i64 0, .bool false, .int .u32 0, .int .i64 0, .bool false, .int .u32 0, .int .i64 0, .bool false, .int .u32 0, .int .i64 0, .bool false, .int .u32 0, .int .i64 0, .bool false, .int .u32 0, .int .i64 0, .bool false, .int .u32 0, .int .i64 0, .bool false, .int .u32 0, .int .i64 0, .bool false, .int .u32 0, .int .i64 0, .bool false, .int .u32 0, .int .i64 0, .bool false, .int .u32 0, .int .i64 0, .bool false, .int .u32 0, .int .i64 0, .bool false] 41)).heap[w1.heap.size + 1]? = some (.cells #[.int .u32 0, .int .i64 0, .bool false, .int .u32 0, .int .i64 0, .bool false, .int .u32 0, .int .i64 0, .bool false, .int .u32 0, .int .i64 0, .bool false, .int .u32 0, .int .i64 0, .bool false, .int .u32 0, .int .i64 0, .bool false, .int .u32 0, .int .i64 0, .bool false, .int .u32 0, .int .i64 0, .bool false, .int .u32 0, .int .i64 0, .bool false, .int .u32 0, .int .i64 0, .bool false, .int .u32 0, .int .i64 0, .bool false, .int .u32 0, .int .i64 0, .bool false, .int .u32 0, .int .i64 0, .bool false] 41 (0, 0)) := by
          have := heap_alloc_new (w1.alloc (.cells #[.int .i64 1, .int .i64 2, .int .i64 8, .int .i64 200, .int .i64 1, .int .i64 16, .int .i64 0, .int .u32 0, .slice s1 1 c1, .slice (some ⟨w1.heap.size + 1, 0, none⟩) 13 13, .slice s3 0 c3] 27)) (.cells #[.int .u32 0, .int .i64 0, .bool false, .int .u32 0, .int .i64 0, .bool false, .int .u32 0, .int .i64 0, .bool false, .int .u32 0, .int .i64 0, .bool false, .int .u32 0, .int .i64 0, .bool false, .int .u32 0, .int .i64 0, .bool false, .int .u32 0, .int .i64 0, .bool false, .int .u32 0, .int .i64 0, .bool false, .int .u32 0, .int .i64 0, .bool false, .int .u32 0, .int .i64 0, .bool false, .int .u32 0, .int .i64 0, .bool false, .int .u32 0, .int .i64 0, .bool false, .int .u32 0, .int .i64 0, .bool false] 41)
          rwa [show (w1.alloc (.cells #[.int .i64 1, .int .i64 2, .int .i64 8, .int .i64 200, .int .i64 1, .int .i64 16, .int .i64 0, .int .u32 0, .slice s1 1 c1, .slice (some ⟨w1.heap.size + 1, 0, none⟩) 13 13, .slice s3 0 c3] 27)).heap.size = w1.heap.size + 1 by simp] at this
        exact S.is _ (⟨1, 2, 8, 200, 1, 16, 0, 0, [0], [⟨0, 0, false⟩, ⟨0, 0, false⟩, ⟨0, 0, false⟩, ⟨0, 0, false⟩, ⟨0, 0, false⟩, ⟨0, 0, false⟩, ⟨0, 0, false⟩, ⟨0, 0, false⟩, ⟨0, 0, false⟩, ⟨0, 0, false⟩, ⟨0, 0, false⟩, ⟨0, 0, false⟩, ⟨0, 0, false⟩], []⟩ : Mx.M) (⟨s1, c1, (some ⟨w1.heap.size + 1, 0, none⟩), 13, s3, c3⟩ : Ma) (HQ.out _ HB.out) ⟨(HM.out.on hbb).l1, li_new (n := 13) hn (by decide) rfl, (HM.out.on hbb).l3⟩ ⟨by decide, by decide, by decide⟩ ⟨rfl, rfl, rfl, rfl, rfl, rfl, rfl, by decide, wf_least.masters, (fun x hx => by simp at hx; subst hx; exact ⟨by decide, rfl⟩), wf_least.windows⟩
      go_wp2_with fail
      refine HI.out.mono ?_
      rintro e w2 ⟨rfl, hb2⟩
      replace HB : Hid (Below W.heap.size W w2) := HB.out.trans (hb2.mono HB.out.size)
      clear hb2 HI
      go_wp2
      go_ret
      exact ⟨rfl, HB.out⟩
  · cases mo
    · skip
      skip
      have hmk := trivial
      have HB : Hid (Below W.heap.size W ((w1.alloc (.cells #[.int .i64 1, .int .i64 2, .int .i64 8, .int .i64 200, .int .i64 1, .int .i64 16, .int .i64 0, .int .u32 0, .slice s1 1 c1, .slice s2 1 c2, .slice (some ⟨w1.heap.size + 1, 0, none⟩) 1 1] 27)).alloc (.cells #[.int .i64 3, .int .i64 0, .int .i64 200, .int .i64 7, .int .i64 8, .int .i64 0] 45))) := (HA.out.alloc HA.out.size _).alloc (by simp; have := HA.out.size; omega) _
      have HI : Hid (Calls Tryd.prog 13 #[.agg #[.int .i64 1, .int .i64 2, .int .i64 8, .int .i64 200, .int .i64 1, .int .i64 16, .int .i64 0, .int .u32 0, .slice s1 1 c1, .slice s2 1 c2, .slice (some ⟨w1.heap.size + 1, 0, none⟩) 1 1]] ((w1.alloc (.cells #[.int .i64 1, .int .i64 2, .int .i64 8, .int .i64 200, .int .i64 1, .int .i64 16, .int .i64 0, .int .u32 0, .slice s1 1 c1, .slice s2 1 c2, .slice (some ⟨w1.heap.size + 1, 0, none⟩) 1 1] 27)).alloc (.cells #[.int .i64 3, .int .i64 0, .int .i64 200, .int .i64 7, .int .i64 8, .int .i64 0] 45)) fun e w' => e = .returned (.bool true) ∧ Below ((w1.alloc (.cells #[.int .i64 1, .int .i64 2, .int .i64 8, .int .i64 200, .int .i64 1, .int .i64 16, .int .i64 0, .int .u32 0, .slice s1 1 c1, .slice s2 1 c2, .slice (some ⟨w1.heap.size + 1, 0, none⟩) 1 1] 27)).alloc (.cells #[.int .i64 3, .int .i64 0, .int .i64 200, .int .i64 7, .int .i64 8, .int .i64 0] 45)).heap.size ((w1.alloc (.cells #[.int .i64 1, .int .i64 2, .int .i64 8, .int .i64 200, .int .i64 1, .int .i64 16, .int .i64 0, .int .u32 0, .slice s1 1 c1, .slice s2 1 c2, .slice (some ⟨w1.heap.size + 1, 0, none⟩) 1 1] 27)).alloc (.cells #[.int .i64 3, .int .i64 0, .int .i64 200, .int .i64 7, .int .i64 8, .int .i64 0] 45)) w') := by
        have hb1 : Below w1.heap.size w1 (w1.alloc (.cells #[.int .i64 1, .int .i64 2, .int .i64 8, .int .i64 200, .int .i64 1, .int .i64 16, .int .i64 0, .int .u32 0, .slice s1 1 c1, .slice s2 1 c2, .slice (some ⟨w1.heap.size + 1, 0, none⟩) 1 1] 27)) := (Below.refl _ _).alloc (Nat.le_refl _) _
        have hb2 : Below (w1.alloc (.cells #[.int .i64 1, .int .i64 2, .int .i64 8, .int .i64 200, .int .i64 1, .int .i64 16, .int .i64 0, .int .u32 0, .slice s1 1 c1, .slice s2 1 c2, .slice (some ⟨w1.heap.size + 1, 0, none⟩) 1 1] 27)).heap.size (w1.alloc (.cells #[.int .i64 1, .int .i64 2, .int .i64 8, .int .i64 200, .int .i64 1, .int .i64 16, .int .i64 0, .int .u32 0, .slice s1 1 c1, .slice s2 1 c2, .slice (some ⟨w1.heap.size + 1, 0, none⟩) 1 1] 27)) ((w1.alloc (.cells #[.int .i64 1, .int .i64 2, .int .i64 8, .int .i64 200, .int .i64 1, .int .i64 16, .int .i64 0, .int .u32 0, .slice s1 1 c1, .slice s2 1 c2, .slice (some ⟨w1.heap.size + 1, 0, none⟩) 1 1] 27)).alloc (.cells #[.int .i64 3, .int .i64 0, .int .i64 200, .int .i64 7, .int .i64 8, .int .i64 0] 45)) := (Below.refl _ _).alloc (Nat.le_refl _) _
        have hbb : Below w1.heap.size w1 ((w1.alloc (.cells #[.int .i64 1, .int .i64 2, .int .i64 8, .int .i64 200, .int .i64 1, .int .i64 16, .int .i64 0, .int .u32 0, .slice s1 1 c1, .slice s2 1 c2, .slice (some ⟨w1.heap.size + 1, 0, none⟩) 1 1] 27)).alloc (.cells #[.int .i64 3, .int .i64 0, .int .i64 200, .int .i64 7, .int .i64 8, .int .i64 0] 45)) := hb1.trans (hb2.mono hb1.size)
        have hn : ((w1.alloc (.cells #[.int .i64 1, .int .i64 2, .int .i64 8, .int .i64 200, .int .i64 1, .int .i64 16, .int .i64 0, .int .u32 0, .slice s1 1 c1, .slice s2 1 c2, .slice (some ⟨w1.heap.size + 1, 0, none⟩) 1 1] 27)).alloc (.cells #[.int .i64 3, .int .i64 0, .int .i64 200, .int .i64 7, .int .i64 8, .int .i64 0] 45)).heap[w1.heap.size + 1]? = some (.cells #[.int .i64 3, .int .i64 0, .int .i64 200, .int .i64 7, .int .i64 8, .int .i64 0] 45 (0, 0)) := by
          have := heap_alloc_new (w1.alloc (.cells #[.int .i64 1, .int .i64 2, .int .i64 8, .int .i64 200, .int .i64 1, .int .i64 16, .int .i64 0, .int .u32 0, .slice s1 1 c1, .slice s2 1 c2, .slice (some ⟨w1.heap.size + 1, 0, none⟩) 1 1] 27)) (.cells #[.int .i64 3, .int .i64 0, .int .i64 200, .int .i64 7, .int .i64 8, .int .i64 0] 45)
          rwa [show (w1.alloc (.cells #[.int .i64 1, .int .i64 2, .int .i64 8, .int .i64 200, .int .i64 1, .int .i64 16, .int .i64 0, .int .u32 0, .slice s1 1 c1, .slice s2 1 c2, .slice (some ⟨w1.heap.size + 1, 0, none⟩) 1 1] 27)).heap.size = w1.heap.size + 1 by simp] at this
        exact S.is _ (⟨1, 2, 8, 200, 1, 16, 0, 0, [0], [⟨9, 1, false⟩], [⟨3, 0, 200, 7, 8, 0⟩]⟩ : Mx.M) (⟨s1, c1, s2, c2, (some ⟨w1.heap.size + 1, 0, none⟩), 1⟩ : Ma) (HQ.out _ HB.out) ⟨(HM.out.on hbb).l1, (HM.out.on hbb).l2, li_new (n := 1) hn (by decide) rfl⟩ ⟨by decide, by decide, by decide⟩ ⟨rfl, rfl, rfl, rfl, rfl, rfl, rfl, by decide, wf_least.masters, wf_least.messages, (fun x hx => by simp at hx; subst hx; exact ⟨rfl, rfl, rfl, rfl, rfl, rfl⟩)⟩
      go_wp2_with fail
      refine HI.out.mono ?_
      rintro e w2 ⟨rfl, hb2⟩
      replace HB : Hid (Below W.heap.size W w2) := HB.out.trans (hb2.mono HB.out.size)
      clear hb2 HI
      go_wp2
      go_ret
      exact ⟨rfl, HB.out⟩
    · skip
      skip
      have hmk := trivial
      have HB : Hid (Below W.heap.size W ((w1.alloc (.cells #[.int .i64 1, .int .i64 2, .int .i64 8, .int .i64 200, .int .i64 1, .int .i64 16, .int .i64 0, .int .u32 0, .slice s1 1 c1, .slice s2 1 c2, .slice (some ⟨w1.heap.size + 1, 0, none⟩) 1 1] 27)).alloc (.cells #[.int .i64 3, .int .i64 0, .int .i64 201, .int .i64 7, .int .i64 8, .int .i64 0] 45))) := (HA.out.alloc HA.out.size _).alloc (by simp; have := HA.out.size; omega) _
      have HI : Hid (Calls Tryd.prog 13 #[.agg #[.int .i64 1, .int .i64 2, .int .i64 8, .int .i64 200, .int .i64 1, .int .i64 16, .int .i64 0, .int .u32 0, .slice s1 1 c1, .slice s2 1 c2, .slice (some ⟨w1.heap.size + 1, 0, none⟩) 1 1]] ((w1.alloc (.cells #[.int .i64 1, .int .i64 2, .int .i64 8, .int .i64 200, .int .i64 1, .int .i64 16, .int .i64 0, .int .u32 0, .slice s1 1 c1, .slice s2 1 c2, .slice (some ⟨w1.heap.size + 1, 0, none⟩) 1 1] 27)).alloc (.cells #[.int .i64 3, .int .i64 0, .int .i64 201, .int .i64 7, .int .i64 8, .int .i64 0] 45)) fun e w' => e = .returned (.bool false) ∧ Below ((w1.alloc (.cells #[.int .i64 1, .int .i64 2, .int .i64 8, .int .i64 200, .int .i64 1, .int .i64 16, .int .i64 0, .int .u32 0, .slice s1 1 c1, .slice s2 1 c2, .slice (some ⟨w1.heap.size + 1, 0, none⟩) 1 1] 27)).alloc (.cells #[.int .i64 3, .int .i64 0, .int .i64 201, .int .i64 7, .int .i64 8, .int .i64 0] 45)).heap.size ((w1.alloc (.cells #[.int .i64 1, .int .i64 2, .int .i64 8, .int .i64 200, .int .i64 1, .int .i64 16, .int .i64 0, .int .u32 0, .slice s1 1 c1, .slice s2 1 c2, .slice (some ⟨w1.heap.size + 1, 0, none⟩) 1 1] 27)).alloc (.cells #[.int .i64 3, .int .i64 0, .int .i64 201, .int .i64 7, .int .i64 8, .int .i64 0] 45)) w') := by
        have hb1 : Below w1.heap.size w1 (w1.alloc (.cells #[.int .i64 1, .int .i64 2, .int .i64 8, .int .i64 200, .int .i64 1, .int .i64 16, .int .i64 0, .int .u32 0, .slice s1 1 c1, .slice s2 1 c2, .slice (some ⟨w1.heap.size + 1, 0, none⟩) 1 1] 27)) := (Below.refl _ _).alloc (Nat.le_refl _) _
        have hb2 : Below (w1.alloc (.cells #[.int .i64 1, .int .i64 2, .int .i64 8, .int .i64 200, .int .i64 1, .int .i64 16, .int .i64 0, .int .u32 0, .slice s1 1 c1, .slice s2 1 c2, .slice (some ⟨w1.heap.size + 1, 0, none⟩) 1 1] 27)).heap.size (w1.alloc (.cells #[.int .i64 1, .int .i64 2, .int .i64 8, .int .i64 200, .int .i64 1, .int .i64 16, .int .i64 0, .int .u32 0, .slice s1 1 c1, .slice s2 1 c2, .slice (some ⟨w1.heap.size + 1, 0, none⟩) 1 1] 27)) ((w1.alloc (.cells #[.int .i64 1, .int .i64 2, .int .i64 8, .int .i64 200, .int .i64 1, .int .i64 16, .int .i64 0, .int .u32 0, .slice s1 1 c1, .slice s2 1 c2, .slice (some ⟨w1.heap.size + 1, 0, none⟩) 1 1] 27)).alloc (.cells #[.int .i64 3, .int .i64 0, .int .i64 201, .int .i64 7, .int .i64 8, .int .i64 0] 45)) := (Below.refl _ _).alloc (Nat.le_refl _) _
        have hbb : Below w1.heap.size w1 ((w1.alloc (.cells #[.int .i64 1, .int .i64 2, .int .i64 8, .int .i64 200, .int .i64 1, .int .i64 16, .int .i64 0, .int .u32 0, .slice s1 1 c1, .slice s2 1 c2, .slice (some ⟨w1.heap.size + 1, 0, none⟩) 1 1] 27)).alloc (.cells #[.int .i64 3, .int .i64 0, .int .i64 201, .int .i64 7, .int .i64 8, .int .i64 0] 45)) := hb1.trans (hb2.mono hb1.size)
        have hn : ((w1.alloc (.cells #[.int .i64 1, .int .i64 2, .int .i64 8, .int .i64 200, .int .i64 1, .int .i64 16, .int .i64 0, .int .u32 0, .slice s1 1 c1, .slice s2 1 c2, .slice (some ⟨w1.heap.size + 1, 0, none⟩) 1 1] 27)).alloc (.cells #[.int .i64 3, .int .i64 0, .int .i64 201, .int .i64 7, .int .i64 8, .int .i64 0] 45)).heap[w1.heap.size + 1]? = some (.cells #[.int .i64 3, .int .i64 0, .int .i64 201, .int .i64 7, .int .i64 8, .int .i64 0] 45 (0, 0)) := by
          have := heap_alloc_new (w1.alloc (.cells #[.int .i64 1, .int .i64 2, .int .i64 8, .int .i64 200, .int .i64 1, .int .i64 16, .int .i64 0, .int .u32 0, .slice s1 1 c1, .slice s2 1 c2, .slice (some ⟨w1.heap.size + 1, 0, none⟩) 1 1] 27)) (.cells #[.int .i64 3, .int .i64 0, .int .i64 201, .int .i64 7, .int .i64 8, .int .i64 0] 45)
          rwa [show (w1.alloc (.cells #[.int .i64 1, .int .i64 2, .int .i64 8, .int .i64 200, .int .i64 1, .int .i64 16, .int .i64 0, .int .u32 0, .slice s1 1 c1, .slice s2 1 c2, .slice (some ⟨w1.heap.size + 1, 0, none⟩) 1 1] 27)).heap.size = w1.heap.size + 1 by simp] at this
        exact S.is _ (⟨1, 2, 8, 200, 1, 16, 0, 0, [0], [⟨9, 1, false⟩], [⟨3, 0, 201, 7, 8, 0⟩]⟩ : Mx.M) (⟨s1, c1, s2, c2, (some ⟨w1.heap.size + 1, 0, none⟩), 1⟩ : Ma) (HQ.out _ HB.out) ⟨(HM.out.on hbb).l1, (HM.out.on hbb).l2, li_new (n := 1) hn (by decide) rfl⟩ ⟨by decide, by decide, by decide⟩ ⟨rfl, rfl, rfl, rfl, rfl, rfl, rfl, by decide, wf_least.masters, wf_least.messages, (fun x hx => by simp at hx; subst hx; exact ⟨rfl, rfl, rfl, rfl, rfl, rfl⟩)⟩
      go_wp2_with fail
      refine HI.out.mono ?_
      rintro e w2 ⟨rfl, hb2⟩
      replace HB : Hid (Below W.heap.size W w2) := HB.out.trans (hb2.mono HB.out.size)
      clear hb2 HI
      go_wp2
      go_ret
      exact ⟨rfl, HB.out⟩
  · cases mo
    · skip
      skip
      have hmk := trivial
      have HB : Hid (Below W.heap.size W ((w1.alloc (.cells #[.int .i64 1, .int .i64 2, .int .i64 8, .int .i64 200, .int .i64 1, .int .i64 16, .int .i64 0, .int .u32 0, .slice s1 1 c1, .slice s2 1 c2, .slice (some ⟨w1.heap.size + 1, 0, none⟩) 1 1] 27)).alloc (.cells #[.int .i64 3, .int .i64 5, .int .i64 9, .int .i64 3, .int .i64 4, .int .i64 0] 45))) := (HA.out.alloc HA.out.size _).alloc (by simp; have := HA.out.size; omega) _
      have HI : Hid (Calls Tryd.prog 13 #[.agg #[.int .i64 1, .int .i64 2, .int .i64 8, .int .i64 200, .int .i64 1, .int .i64 16, .int .i64 0, .int .u32 0, .slice s1 1 c1, .slice s2 1 c2, .slice (some ⟨w1.heap.size + 1, 0, none⟩) 1 1]] ((w1.alloc (.cells #[.int .i64 1, .int .i64 2, .int .i64 8, .int .i64 200, .int .i64 1, .int .i64 16, .int .i64 0, .int .u32 0, .slice s1 1 c1, .slice s2 1 c2, .slice (some ⟨w1.heap.size + 1, 0, none⟩) 1 1] 27)).alloc (.cells #[.int .i64 3, .int .i64 5, .int .i64 9, .int .i64 3, .int .i64 4, .int .i64 0] 45)) fun e w' => e = .returned (.bool true) ∧ Below ((w1.alloc (.cells #[.int .i64 1, .int .i64 2, .int .i64 8, .int .i64 200, .int .i64 1, .int .i64 16, .int .i64 0, .int .u32 0, .slice s1 1 c1, .slice s2 1 c2, .slice (some ⟨w1.heap.size + 1, 0, none⟩) 1 1] 27)).alloc (.cells #[.int .i64 3, .int .i64 5, .int .i64 9, .int .i64 3, .int .i64 4, .int .i64 0] 45)).heap.size ((w1.alloc (.cells #[.int .i64 1, .int .i64 2, .int .i64 8, .int .i64 200, .int .i64 1, .int .i64 16, .int .i64 0, .int .u32 0, .slice s1 1 c1, .slice s2 1 c2, .slice (some ⟨w1.heap.size + 1, 0, none⟩) 1 1] 27)).alloc (.cells #[.int .i64 3, .int .i64 5, .int .i64 9, .int .i64 3, .int .i64 4, .int .i64 0] 45)) w') := by
        have hb1 : Below w1.heap.size w1 (w1.alloc (.cells #[.int .i64 1, .int .i64 2, .int .i64 8, .int .i64 200, .int .i64 1, .int .i64 16, .int .i64 0, .int .u32 0, .slice s1 1 c1, .slice s2 1 c2, .slice (some ⟨w1.heap.size + 1, 0, none⟩) 1 1] 27)) := (Below.refl _ _).alloc (Nat.le_refl _) _
        have hb2 : Below (w1.alloc (.cells #[.int .i64 1, .int .i64 2, .int .i64 8, .int .i64 200, .int .i64 1, .int .i64 16, .int .i64 0, .int .u32 0, .slice s1 1 c1, .slice s2 1 c2, .slice (some ⟨w1.heap.size + 1, 0, none⟩) 1 1] 27)).heap.size (w1.alloc (.cells #[.int .i64 1, .int .i64 2, .int .i64 8, .int .i64 200, .int .i64 1, .int .i64 16, .int .i64 0, .int .u32 0, .slice s1 1 c1, .slice s2 1 c2, .slice (some ⟨w1.heap.size + 1, 0, none⟩) 1 1] 27)) ((w1.alloc (.cells #[.int .i64 1, .int .i64 2, .int .i64 8, .int .i64 200, .int .i64 1, .int .i64 16, .int .i64 0, .int .u32 0, .slice s1 1 c1, .slice s2 1 c2, .slice (some ⟨w1.heap.size + 1, 0, none⟩) 1 1] 27)).alloc (.cells #[.int .i64 3, .int .i64 5, .int .i64 9, .int .i64 3, .int .i64 4, .int .i64 0] 45)) := (Below.refl _ _).alloc (Nat.le_refl _) _
        have hbb : Below w1.heap.size w1 ((w1.alloc (.cells #[.int .i64 1, .int .i64 2, .int .i64 8, .int .i64 200, .int .i64 1, .int .i64 16, .int .i64 0, .int .u32 0, .slice s1 1 c1, .slice s2 1 c2, .slice (some ⟨w1.heap.size + 1, 0, none⟩) 1 1] 27)).alloc (.cells #[.int .i64 3, .int .i64 5, .int .i64 9, .int .i64 3, .int .i64 4, .int .i64 0] 45)) := hb1.trans (hb2.mono hb1.size)
        have hn : ((w1.alloc (.cells #[.int .i64 1, .int .i64 2, .int .i64 8, .int .i64 200, .int .i64 1, .int .i64 16, .int .i64 0, .int .u32 0, .slice s1 1 c1, .slice s2 1 c2, .slice (some ⟨w1.heap.size + 1, 0, none⟩) 1 1] 27)).alloc (.cells #[.int .i64 3, .int .i64 5, .int .i64 9, .int .i64 3, .int .i64 4, .int .i64 0] 45)).heap[w1.heap.size + 1]? = some (.cells #[.int .i64 3, .int .i64 5, .int .i64 9, .int .i64 3, .int .i64 4, .int .i64 0] 45 (0, 0)) := by
          have := heap_alloc_new (w1.alloc (.cells #[.int .i64 1, .int .i64 2, .int .i64 8, .int .i64 200, .int .i64 1, .int .i64 16, .int .i64 0, .int .u32 0, .slice s1 1 c1, .slice s2 1 c2, .slice (some ⟨w1.heap.size + 1, 0, none⟩) 1 1] 27)) (.cells #[.int .i64 3, .int .i64 5, .int .i64 9, .int .i64 3, .int .i64 4, .int .i64 0] 45)
          rwa [show (w1.alloc (.cells #[.int .i64 1, .int .i64 2, .int .i64 8, .int .i64 200, .int .i64 1, .int .i64 16, .int .i64 0, .int .u32 0, .slice s1 1 c1, .slice s2 1 c2, .slice (some ⟨w1.heap.size + 1, 0, none⟩) 1 1] 27)).heap.size = w1.heap.size + 1 by simp] at this
        exact S.is _ (⟨1, 2, 8, 200, 1, 16, 0, 0, [0], [⟨9, 1, false⟩], [⟨3, 5, 9, 3, 4, 0⟩]⟩ : Mx.M) (⟨s1, c1, s2, c2, (some ⟨w1.heap.size + 1, 0, none⟩), 1⟩ : Ma) (HQ.out _ HB.out) ⟨(HM.out.on hbb).l1, (HM.out.on hbb).l2, li_new (n := 1) hn (by decide) rfl⟩ ⟨by decide, by decide, by decide⟩ ⟨rfl, rfl, rfl, rfl, rfl, rfl, rfl, by decide, wf_least.masters, wf_least.messages, (fun x hx => by simp at hx; subst hx; exact ⟨rfl, rfl, rfl, rfl, rfl, rfl⟩)⟩
      go_wp2_with fail
      refine HI.out.mono ?_
      rintro e w2 ⟨rfl, hb2⟩
      replace HB : Hid (Below W.heap.size W w2) := HB.out.trans (hb2.mono HB.out.size)
      clear hb2 HI
      go_wp2
      go_ret
      exact ⟨rfl, HB.out⟩
    · skip
      skip
      have hmk := trivial
      have HB : Hid (Below W.heap.size W ((w1.alloc (.cells #[.int .i64 1, .int .i64 2, .int .i64 8, .int .i64 200, .int .i64 1, .int .i64 16, .int .i64 0, .int .u32 0, .slice s1 1 c1, .slice s2 1 c2, .slice (some ⟨w1.heap.size + 1, 0, none⟩) 1 1] 27)).alloc (.cells #[.int .i64 3, .int .i64 5, .int .i64 9, .int .i64 4, .int .i64 4, .int .i64 0] 45))) := (HA.out.alloc HA.out.size _).alloc (by simp; have := HA.out.size; omega) _
      have HI : Hid (Calls Tryd.prog 13 #[.agg #[.int .i64 1, .int .i64 2, .int .i64 8, .int .i64 200, .int .i64 1, .int .i64 16, .int .i64 0, .int .u32 0, .slice s1 1 c1, .slice s2 1 c2, .slice (some ⟨w1.heap.size + 1, 0, none⟩) 1 1]] ((w1.alloc (.cells #[.int .i64 1, .int .i64 2, .int .i64 8, .int .i64 200, .int .i64 1, .int .i64 16, .int .i64 0, .int .u32 0, .slice s1 1 c1, .slice s2 1 c2, .slice (some ⟨w1.heap.size + 1, 0, none⟩) 1 1] 27)).alloc (.cells #[.int .i64 3, .int .i64 5, .int .i64 9, .int .i64 4, .int .i64 4, .int .i64 0] 45)) fun e w' => e = .returned (.bool false) ∧ Below ((w1.alloc (.cells #[.int .i64 1, .int .i64 2, .int .i64 8, .int .i64 200, .int .i64 1, .int .i64 16, .int .i64 0, .int .u32 0, .slice s1 1 c1, .slice s2 1 c2, .slice (some ⟨w1.heap.size + 1, 0, none⟩) 1 1] 27)).alloc (.cells #[.int .i64 3, .int .i64 5, .int .i64 9, .int .i64 4, .int .i64 4, .int .i64 0] 45)).heap.size ((w1.alloc (.cells #[.int .i64 1, .int .i64 2, .int .i64 8, .int .i64 200, .int .i64 1, .int .i64 16, .int .i64 0, .int .u32 0, .slice s1 1 c1, .slice s2 1 c2, .slice (some ⟨w1.heap.size + 1, 0, none⟩) 1 1] 27)).alloc (.cells #[.int .i64 3, .int .i64 5, .int .i64 9, .int .i64 4, .int .i64 4, .int .i64 0] 45)) w') := by
        have hb1 : Below w1.heap.size w1 (w1.alloc (.cells #[.int .i64 1, .int .i64 2, .int .i64 8, .int .i64 200, .int .i64 1, .int .i64 16, .int .i64 0, .int .u32 0, .slice s1 1 c1, .slice s2 1 c2, .slice (some ⟨w1.heap.size + 1, 0, none⟩) 1 1] 27)) := (Below.refl _ _).alloc (Nat.le_refl _) _
        have hb2 : Below (w1.alloc (.cells #[.int .i64 1, .int .i64 2, .int .i64 8, .int .i64 200, .int .i64 1, .int .i64 16, .int .i64 0, .int .u32 0, .slice s1 1 c1, .slice s2 1 c2, .slice (some ⟨w1.heap.size + 1, 0, none⟩) 1 1] 27)).heap.size (w1.alloc (.cells #[.int .i64 1, .int .i64 2, .int .i64 8, .int .i64 200, .int .i64 1, .int .i64 16, .int .i64 0, .int .u32 0, .slice s1 1 c1, .slice s2 1 c2, .slice (some ⟨w1.heap.size + 1, 0, none⟩) 1 1] 27)) ((w1.alloc (.cells #[.int .i64 1, .int .i64 2, .int .i64 8, .int .i64 200, .int .i64 1, .int .i64 16, .int .i64 0, .int .u32 0, .slice s1 1 c1, .slice s2 1 c2, .slice (some ⟨w1.heap.size + 1, 0, none⟩) 1 1] 27)).alloc (.cells #[.int .i64 3, .int .i64 5, .int .i64 9, .int .i64 4, .int .i64 4, .int .i64 0] 45)) := (Below.refl _ _).alloc (Nat.le_refl _) _
        have hbb : Below w1.heap.size w1 ((w1.alloc (.cells #[.int .i64 1, .int .i64 2, .int .i64 8, .int .i64 200, .int .i64 1, .int .i64 16, .int .i64 0, .int .u32 0, .slice s1 1 c1, .slice s2 1 c2, .slice (some ⟨w1.heap.size + 1, 0, none⟩) 1 1] 27)).alloc (.cells #[.int .i64 3, .int .i64 5, .int .i64 9, .int .i64 4, .int .i64 4, .int .i64 0] 45)) := hb1.trans (hb2.mono hb1.size)
        have hn : ((w1.alloc (.cells #[.int .i64 1, .int .i64 2, .int .i64 8, .int .i64 200, .int .i64 1, .int .i64 16, .int .i64 0, .int .u32 0, .slice s1 1 c1, .slice s2 1 c2, .slice (some ⟨w1.heap.size + 1, 0, none⟩) 1 1] 27)).alloc (.cells #[.int .i64 3, .int .i64 5, .int .i64 9, .int .i64 4, .int .i64 4, .int .i64 0] 45)).heap[w1.heap.size + 1]? = some (.cells #[.int .i64 3, .int .i64 5, .int .i64 9, .int .i64 4, .int .i64 4, .int .i64 0] 45 (0, 0)) := by
          have := heap_alloc_new (w1.alloc (.cells #[.int .i64 1, .int .i64 2, .int .i64 8, .int .i64 200, .int .i64 1, .int .i64 16, .int .i64 0, .int .u32 0, .slice s1 1 c1, .slice s2 1 c2, .slice (some ⟨w1.heap.size + 1, 0, none⟩) 1 1] 27)) (.cells #[.int .i64 3, .int .i64 5, .int .i64 9, .int .i64 4, .int .i64 4, .int .i64 0] 45)
          rwa [show (w1.alloc (.cells #[.int .i64 1, .int .i64 2, .int .i64 8, .int .i64 200, .int .i64 1, .int .i64 16, .int .i64 0, .int .u32 0, .slice s1 1 c1, .slice s2 1 c2, .slice (some ⟨w1.heap.size + 1, 0, none⟩) 1 1] 27)).heap.size = w1.heap.size + 1 by simp] at this
        exact S.is _ (⟨1, 2, 8, 200, 1, 16, 0, 0, [0], [⟨9, 1, false⟩], [⟨3, 5, 9, 4, 4, 0⟩]⟩ : Mx.M) (⟨s1, c1, s2, c2, (some ⟨w1.heap.size + 1, 0, none⟩), 1⟩ : Ma) (HQ.out _ HB.out) ⟨(HM.out.on hbb).l1, (HM.out.on hbb).l2, li_new (n := 1) hn (by decide) rfl⟩ ⟨by decide, by decide, by decide⟩ ⟨rfl, rfl, rfl, rfl, rfl, rfl, rfl, by decide, wf_least.masters, wf_least.messages, (fun x hx => by simp at hx; subst hx; exact ⟨rfl, rfl, rfl, rfl, rfl, rfl⟩)⟩
      go_wp2_with fail
      refine HI.out.mono ?_
      rintro e w2 ⟨rfl, hb2⟩
      replace HB : Hid (Below W.heap.size W w2) := HB.out.trans (hb2.mono HB.out.size)
      clear hb2 HI
      go_wp2
      go_ret
      exact ⟨rfl, HB.out⟩
end Go.Proofs.YthknkolnalobjaaDoor.matrixBounds
