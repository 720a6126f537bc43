/- What readEnds of package code answers, over the program's own text. -/
import Derived.Test.YthkaekpoicodeaaGreatDoorU1
import Derived.Test.YthkaekpoicodeaaGreatDoorU2
import Derived.Test.YthkaekpoicodeaaGreatDoorZt
namespace Go.Proofs.YthkaekpoicodeaaGreatDoor
open Go.RowKit
theorem six_cells {w : World} {g : Nat} {a b c d e f : Value} {t : TypeId} (h : w.heap[g]? = some (.cells #[a, b, c, d, e, f] t (0, 0))) :
    w.cell? ⟨g, 0, none⟩ = some a ∧ w.cell? ⟨g, 1, none⟩ = some b ∧ w.cell? ⟨g, 2, none⟩ = some c ∧ w.cell? ⟨g, 3, none⟩ = some d ∧ w.cell? ⟨g, 4, none⟩ = some e ∧ w.cell? ⟨g, 5, none⟩ = some f :=
  ⟨by rw [cell_of_row _ _ _ _ _ _ h]; rfl, by rw [cell_of_row _ _ _ _ _ _ h]; rfl, by rw [cell_of_row _ _ _ _ _ _ h]; rfl, by rw [cell_of_row _ _ _ _ _ _ h]; rfl, by rw [cell_of_row _ _ _ _ _ _ h]; rfl, by rw [cell_of_row _ _ _ _ _ _ h]; rfl⟩
set_option maxRecDepth 100000 in
set_option maxHeartbeats 1000000 in
theorem readEnds_any (s : ByteArray) (hs : s.size ≤ 1000000) (x : Bool) (n : Nat) (r : Bool) (d : ByteArray) (rt : Bool) (lg : Nat) (hl : lg ≤ s.size) (w : World) :
    Calls Tryz.prog 112 #[.string s, .agg #[.bool x, .int .u32 n, .bool r, .string d, .bool rt, .int .i64 lg]] w fun e w' => e = .returned (.tuple #[.int .i64 ((Cm.endsB (Bm.read s.data.toList) rt 10 0 lg).1 : Int), .int .i64 ((Cm.endsB (Bm.read s.data.toList) rt 10 0 lg).2 : Int)]) ∧ Below w.heap.size w w' := by
  have hlen : (Bm.read s.data.toList).length = s.size := by rw [Bm.length_read]; simp
  have HG : Hid (∀ p (h : p < s.size), (Bm.read s.data.toList).getD p false = Bm.isOne s[p]) := fun p h => by
    rw [List.getD_eq_getElem?_getD]
    have e : (Bm.read s.data.toList).drop p = Bm.isOne s[p] :: (Bm.read s.data.toList).drop (p + 1) := Bm.read_drop s p h
    have e2 := congrArg (·[0]?) e
    simp only [List.getElem?_drop, List.getElem?_cons_zero, Nat.add_zero] at e2
    rw [e2]
    rfl
  generalize Bm.read s.data.toList = L at *
  go_enter Tryz.func112, Tryz.ntmps112
  go_wp2
  go_step3
  go_wp2
  go_step3
  go_wp2
  go_loopw [6, 7, 11] (fun p e i wr => ∃ (k q : Nat), k ≤ 10 ∧ q ≤ s.size ∧ p = .int .i64 q ∧ e = .int .i64 0 ∧ i = .int .i64 k ∧ Hid (Cm.endsB L rt 10 0 lg = Cm.endsB L rt (10 - k) k q) ∧ Hid (wr.heap[w.heap.size]? = some (.cells #[.bool x, .int .u32 n, .bool r, .string d, .bool rt, .int .i64 lg] 138 (0, 0))) ∧ Below w.heap.size w wr) (fun _ _ i _ => 10 - (intOf i).toNat)
  case atStart => exact ⟨0, lg, Nat.zero_le _, hl, rfl, rfl, rfl, rfl, heap_alloc_new _ _, (Below.refl _ _).alloc (Nat.le_refl _) _⟩
  case round =>
    obtain ⟨k, q, hk, hq, rfl, rfl, rfl, HI, HV, hb⟩ := hrel
    obtain ⟨c0, c1, c2, c3, c4, c5⟩ := six_cells HV.out
    by_cases hlt : k < 10
    · have HB : Hid (Cm.endsB L rt 10 0 lg = if L.length ≤ q then (q, 10) else if k = 1 then Cm.endsB L rt (10 - (k + 1)) (k + 1) (q + 1) else if L.getD q false = false then (q, 12) else if k = 2 ∧ rt = false then (q, 40) else Cm.endsB L rt (10 - (k + 1)) (k + 1) (q + 1)) := by
        show _ = _
        rw [HI.out, show 10 - k = (10 - (k + 1)) + 1 from by omega]
        rfl
      rw [hlen] at HB
      clear HI
      by_cases c : s.size ≤ q
      · rw [if_pos c] at HB
        obtain rfl : q = s.size := by omega
        go_wp2
        rw [Exit.noGoto_ret]
        exact bodyPost_ret (v := .tuple #[.int .i64 (s.size : Int), .int .i64 10]) (by simp [results, Tryz.results112, go_sem]) rfl ⟨by rw [HB.out]; rfl, hb⟩
      · rw [if_neg c] at HB
        by_cases k1 : k = 1
        · subst k1
          rw [if_pos rfl] at HB
          go_wp2
          exact ⟨⟨2, q + 1, by decide, by omega, by go_num, rfl, rfl, HB, HV, hb⟩, by decide⟩
        · rw [if_neg k1] at HB
          have k1' : ((k : Int) == 1) = false := by rw [beq_eq_false_iff_ne]; omega
          have hi1 := fun W => run_idx (P := Tryz.prog) 9 Tryz.underlying9 s q (q : Int) rfl (by omega) W
          have hi2 : ∀ W, (Instr.index 9 (.string ⟨#[49, 49, 49, 49, 49, 49, 49, 49, 49, 49]⟩) (.int .i64 (k : Int))).run Tryz.prog W = .ok (.int .u8 49) W := fun W => by
            have h := run_idx (P := Tryz.prog) 9 Tryz.underlying9 tenOnes k (k : Int) rfl hlt W
            rw [ten_at k hlt] at h
            exact h
          rw [HG.out q (by omega)] at HB
          have hone := Bm.isOne_dec s[q]
          generalize s[q].toNat = C at *
          cases ho : Bm.isOne s[q]
          · rw [ho] at hone HB
            rw [if_pos rfl] at HB
            have hne : ((C : Int) != 49) = true := by rw [bne, hone]; rfl
            clear ho k1 HG hone
            go_wp2
            go_quiet (fail)
            go_wp2
            rw [Exit.noGoto_ret]
            exact bodyPost_ret (v := .tuple #[.int .i64 (q : Int), .int .i64 12]) (by simp [results, Tryz.results112, go_sem]) rfl ⟨by rw [HB.out]; rfl, below_drewN hb _⟩
          · rw [ho] at hone HB
            rw [if_neg (by decide)] at HB
            have hne : ((C : Int) != 49) = false := by rw [bne, hone]; rfl
            clear ho k1 HG hone
            by_cases k2 : k = 2 ∧ rt = false
            · rw [if_pos k2] at HB
              obtain ⟨k3, rfl⟩ := k2
              have k3' : ((k : Int) == 2) = true := by rw [k3]; rfl
              clear k3
              go_wp2
              go_quiet (fail)
              go_wp2
              rw [Exit.noGoto_ret]
              exact bodyPost_ret (v := .tuple #[.int .i64 (q : Int), .int .i64 40]) (by simp [results, Tryz.results112, go_sem]) rfl ⟨by rw [HB.out]; rfl, below_drewN hb _⟩
            · rw [if_neg k2] at HB
              by_cases k3 : k = 2
              · obtain rfl : rt = true := by cases rt; exact absurd ⟨k3, rfl⟩ k2; rfl
                have k3' : ((k : Int) == 2) = true := by rw [k3]; rfl
                clear k3 k2
                go_wp2
                go_quiet (fail)
                go_wp2
                exact ⟨⟨k + 1, q + 1, by omega, by omega, by go_num, rfl, by go_num, HB, HV, below_drewN hb _⟩, by simp [intOf]; omega⟩
              · have k3' : ((k : Int) == 2) = false := by rw [beq_eq_false_iff_ne]; omega
                clear k3 k2
                go_wp2
                go_quiet (fail)
                go_wp2
                exact ⟨⟨k + 1, q + 1, by omega, by omega, by go_num, rfl, by go_num, HB, HV, below_drewN hb _⟩, by simp [intOf]; omega⟩
    · obtain rfl : k = 10 := by omega
      have HE : Hid (Cm.endsB L rt 10 0 lg = (q, 0)) := by show _ = _; rw [HI.out]; rfl
      go_wp2
      rw [Exit.noGoto_ret]
      exact bodyPost_ret (v := .tuple #[.int .i64 (q : Int), .int .i64 0]) (by simp [results, Tryz.results112, go_sem]) rfl ⟨by rw [HE.out]; rfl, hb⟩
end Go.Proofs.YthkaekpoicodeaaGreatDoor
