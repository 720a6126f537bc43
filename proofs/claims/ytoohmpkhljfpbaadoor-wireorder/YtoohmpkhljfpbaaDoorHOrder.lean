/- WireOrder: of frames asked for at once all go, the one that wins first, for every slice of one to four frames of at most 8 bytes that are ones and of which no two have one identifier and kind (others are let by); no condition. -/
import Derived.Test.YtoohmpkhljfpbaaDoorHe
import Derived.Test.YtoohmpkhljfpbaaDoorU8
import Derived.Test.YtoohmpkhljfpbaaDoorT5
import Derived.Deep.Cut
import Derived.ProofKit
import Derived.OpenShut
namespace Go.Proofs.YtoohmpkhljfpbaaDoor.wireOrder
open Go.ChangeShapes Go.WideShapes Go.ChangeAt Go.RowKit
set_option linter.unusedVariables false
variable {At : Ob.A Mm.Wi}
theorem is_call (f : Cm.Fr) (w : World) : Calls Tryd.prog 9 #[.agg #[.bool f.1, .int .u32 (f.2.1 : Int), .bool f.2.2.1, .string ⟨f.2.2.2.toArray⟩]] w fun e w' => e = .returned (.bool (Mm.isFr f)) ∧ Below w.heap.size w w' := refFIs_any f.1 f.2.1 f.2.2.1 ⟨f.2.2.2.toArray⟩ w
theorem cmp_call {f g : Cm.Fr} (hf : Mm.isFr f = true) (hg : Mm.isFr g = true) (h1 : f.2.1 < 4294967296) (h2 : g.2.1 < 4294967296) (w : World) : Calls Tryd.prog 10 #[.agg #[.bool f.1, .int .u32 (f.2.1 : Int), .bool f.2.2.1, .string ⟨f.2.2.2.toArray⟩], .agg #[.bool g.1, .int .u32 (g.2.1 : Int), .bool g.2.2.1, .string ⟨g.2.2.2.toArray⟩]] w fun e w' => e = .returned (.int .i64 (Fm.sgn (Mm.kf f) (Mm.kf g))) ∧ Below w.heap.size w w' := by
  have h := refFCmp_any f.1 f.2.1 f.2.2.1 ⟨f.2.2.2.toArray⟩ g.1 g.2.1 g.2.2.1 ⟨g.2.2.2.toArray⟩ w h1 h2
  have e1 : Fm.arb f.1 f.2.1 f.2.2.1 (ByteArray.mk f.2.2.2.toArray).data.toList = Fm.arb0 f.1 f.2.1 f.2.2.1 := by unfold Fm.arb; exact if_pos hf
  have e2 : Fm.arb g.1 g.2.1 g.2.2.1 (ByteArray.mk g.2.2.2.toArray).data.toList = Fm.arb0 g.1 g.2.1 g.2.2.1 := by unfold Fm.arb; exact if_pos hg
  rw [e1, e2, Mm.kf_cmp hf hg] at h
  exact h
/-- The first k are frames, no two of one identifier and kind. -/
def Chk (fr : Nat → Cm.Fr) (k : Nat) : Prop := (∀ j, j < k → Mm.isFr (fr j) = true ∧ (fr j).2.2.2.length ≤ 8) ∧ ∀ a b, a < k → b < k → a ≠ b → Mm.kf (fr a) ≠ Mm.kf (fr b)
theorem chk_next {fr : Nat → Cm.Fr} {k : Nat} (h : Chk fr k) (h1 : Mm.isFr (fr k) = true) (h2 : ¬ 8 < (fr k).2.2.2.length) (h3 : ∀ b, b < k → Mm.kf (fr b) ≠ Mm.kf (fr k)) : Chk fr (k + 1) := by
  refine ⟨fun j hj => ?_, fun a b ha hb hne => ?_⟩
  · by_cases e : j = k
    · subst e; exact ⟨h1, by omega⟩
    · exact h.1 j (by omega)
  · by_cases e : a = k
    · subst e; exact fun z => h3 b (by omega) z.symm
    · by_cases e2 : b = k
      · subst e2; exact h3 a (by omega)
      · exact h.2 a b (by omega) (by omega) hne
theorem idl_succ (ms : List Mm.St) (k : Nat) (m : Mm.St) (h : ms[k]? = some m) : Mm.idl (ms.take (k + 1)) = (Mm.idl (ms.take k) && (decide (m.ph = .idle) && !Mm.busy m)) := by
  unfold Mm.idl
  rw [List.take_add_one, h, List.all_append]
  simp
theorem ite4n {α : Type} {x y r s : Bool} {n m : Nat} {P : Prop} [Decidable P] {A B : α} (h : ¬ (x = y ∧ n = m ∧ r = s)) : (if x = y then (if (n : Int) = (m : Int) then (if r = s then (if P then A else B) else B) else B) else B) = B := by
  by_cases h1 : x = y
  · rw [if_pos h1]
    by_cases h2 : n = m
    · rw [if_pos (by omega)]
      by_cases h3 : r = s
      · exact absurd ⟨h1, h2, h3⟩ h
      · rw [if_neg h3]
    · rw [if_neg (by omega)]
  · rw [if_neg h1]
theorem wf_small (k : Nat) (h : k ≤ 1000) : (Lit.int .i64 (k : Int)).wf = true := by
  have hk : IntKind.i64.min = -9223372036854775808 ∧ IntKind.i64.max = 9223372036854775807 := ⟨rfl, rfl⟩
  simp only [Lit.wf, hk.1, hk.2, Bool.and_eq_true, decide_eq_true_eq]; omega
set_option maxRecDepth 100000 in
set_option maxHeartbeats 4000000 in
theorem short (S : WireSpec At) (s0 : Option Addr) (len0 cap0 : Nat) (h : len0 = 0 ∨ 4 < len0) (W : World) (hT : Tab W) :
    Calls Tryd.prog 3 #[.slice s0 len0 cap0] W fun e w' => e = .returned (.bool true) ∧ Below W.heap.size W w' := by
  have HT : Hid (Tab W) := hT
  clear hT
  rcases h with rfl | h
  · go_enter Tryd.func3, Tryd.ntmps3
    go_wp2_with fail
    refine (known8_any S _ HT.out).mono ?_
    rintro e w1 ⟨rfl, hb⟩
    have hA : Hid (Below W.heap.size W w1) := hb
    clear hb
    go_wp2
    go_ret
    exact ⟨rfl, hA.out⟩
  · have h1 : ¬ len0 < 1 := by omega
    go_enter Tryd.func3, Tryd.ntmps3
    go_wp2_with fail
    refine (known8_any S _ HT.out).mono ?_
    rintro e w1 ⟨rfl, hb⟩
    have hA : Hid (Below W.heap.size W w1) := hb
    clear hb
    go_wp2
    go_ret
    exact ⟨rfl, hA.out⟩
set_option maxRecDepth 100000 in
set_option maxHeartbeats 20000000 in
theorem main (S : WireSpec At) (S2 : StepNew At) (b0 o0 n cap0 : Nat) (hn1 : 1 ≤ n) (hn4 : n ≤ 4) (fr : Nat → Cm.Fr) (W : World) (hT : Tab W)
    (hfr : ∀ i, i < n → W.cell? ⟨b0, o0 + i * 4, none⟩ = some (.bool (fr i).1) ∧ W.cell? ⟨b0, o0 + i * 4 + 1, none⟩ = some (.int .u32 ((fr i).2.1 : Int)) ∧ W.cell? ⟨b0, o0 + i * 4 + 2, none⟩ = some (.bool (fr i).2.2.1) ∧ W.cell? ⟨b0, o0 + i * 4 + 3, none⟩ = some (.string ⟨(fr i).2.2.2.toArray⟩) ∧ (fr i).2.1 < 4294967296) :
    Calls Tryd.prog 3 #[.slice (some ⟨b0, o0, none⟩) n cap0] W fun e w' => e = .returned (.bool true) ∧ Below W.heap.size W w' := by
  have HT : Hid (Tab W) := hT
  have HQ : Hid (∀ i, i < n → ∀ w', Below W.heap.size W w' → w'.cell? ⟨b0, o0 + i * 4, none⟩ = some (.bool (fr i).1) ∧ w'.cell? ⟨b0, o0 + i * 4 + 1, none⟩ = some (.int .u32 ((fr i).2.1 : Int)) ∧ w'.cell? ⟨b0, o0 + i * 4 + 2, none⟩ = some (.bool (fr i).2.2.1) ∧ w'.cell? ⟨b0, o0 + i * 4 + 3, none⟩ = some (.string ⟨(fr i).2.2.2.toArray⟩)) := fun i hi w' hb =>
    ⟨cell_on8 hb (hfr i hi).1, cell_on8 hb (hfr i hi).2.1, cell_on8 hb (hfr i hi).2.2.1, cell_on8 hb (hfr i hi).2.2.2.1⟩
  have HN : Hid (∀ i, i < n → (fr i).2.1 < 4294967296) := fun i hi => (hfr i hi).2.2.2.2
  have z1 : ¬ n < 1 := by omega
  have z4 : ¬ 4 < n := by omega
  clear hT hfr
  go_enter Tryd.func3, Tryd.ntmps3
  go_wp2_with fail
  refine (known8_any S _ HT.out).mono ?_
  rintro e w1 ⟨rfl, hb⟩
  have hA : Hid (Below W.heap.size W w1) := hb
  clear hb
  go_wp2_with fail
  go_loopw [3] (fun i wr => ∃ k : Nat, k ≤ n ∧ i = .int .i64 k ∧ Hid (Chk fr k) ∧ Hid (Below W.heap.size W wr)) (fun i _ => n - (intOf i).toNat)
  case atStart => exact ⟨0, Nat.zero_le _, rfl, ⟨fun j hj => absurd hj (Nat.not_lt_zero _), fun a b ha => absurd ha (Nat.not_lt_zero _)⟩, hA⟩
  case round =>
    clear hA
    obtain ⟨k, hk, rfl, HCk, hA⟩ := hrel
    by_cases hlt : k < n
    · obtain ⟨r0, r1, r2, r3⟩ := HQ.out k hlt wr hA.out
      by_cases hd : 8 < (fr k).2.2.2.length
      · go_wp2
        go_ret
        exact ⟨rfl, hA.out⟩
      · cases hf : Mm.isFr (fr k) with
        | false =>
          go_wp2_with fail
          refine (is_call (fr k) _).mono ?_
          rintro e w2 ⟨rfl, hb⟩
          have hA2 : Hid (Below W.heap.size W w2) := below_joinK hA.out hb hA.out.size
          rw [hf]
          clear hb r0 r1 r2 r3
          go_wp2
          go_ret
          exact ⟨rfl, hA2.out⟩
        | true =>
          go_wp2_with fail
          refine (is_call (fr k) _).mono ?_
          rintro e w2 ⟨rfl, hb⟩
          have hA2 : Hid (Below W.heap.size W w2) := below_joinK hA.out hb hA.out.size
          have HF : Hid (Mm.isFr (fr k) = true) := hf
          have HD : Hid (¬ 8 < (fr k).2.2.2.length) := hd
          rw [hf]
          clear hb r0 r1 r2 r3 hf hd
          go_wp2_with fail
          go_loopw [4] (fun i wr => ∃ j : Nat, j ≤ k ∧ i = .int .i64 j ∧ Hid (∀ b, b < j → Mm.kf (fr b) ≠ Mm.kf (fr k)) ∧ Hid (Below W.heap.size W wr)) (fun i _ => k - (intOf i).toNat)
          case atStart => exact ⟨0, Nat.zero_le _, rfl, fun b hb => absurd hb (Nat.not_lt_zero _), hA2⟩
          case round =>
            clear hA hA2
            obtain ⟨j, hj, rfl, HNe, hA⟩ := hrel
            by_cases hjk : j < k
            · have HCm : Hid (∀ w', Below wr.heap.size wr w' → Calls Tryd.prog 10 #[.agg #[.bool (fr k).1, .int .u32 ((fr k).2.1 : Int), .bool (fr k).2.2.1, .string ⟨(fr k).2.2.2.toArray⟩], .agg #[.bool (fr j).1, .int .u32 ((fr j).2.1 : Int), .bool (fr j).2.2.1, .string ⟨(fr j).2.2.2.toArray⟩]] w' fun e w'' => e = .returned (.int .i64 (Fm.sgn (Mm.kf (fr k)) (Mm.kf (fr j)))) ∧ Below w'.heap.size w' w'') := fun w' _ => cmp_call HF.out (HCk.out.1 j hjk).1 (HN.out k hlt) (HN.out j (by omega)) w'
              have HK : Hid (∀ w', Below wr.heap.size wr w' → w'.cell? ⟨b0, o0 + k * 4, none⟩ = some (.bool (fr k).1) ∧ w'.cell? ⟨b0, o0 + k * 4 + 1, none⟩ = some (.int .u32 ((fr k).2.1 : Int)) ∧ w'.cell? ⟨b0, o0 + k * 4 + 2, none⟩ = some (.bool (fr k).2.2.1) ∧ w'.cell? ⟨b0, o0 + k * 4 + 3, none⟩ = some (.string ⟨(fr k).2.2.2.toArray⟩)) := fun w' hb => HQ.out k hlt w' (below_joinK hA.out hb hA.out.size)
              have HJ : Hid (∀ w', Below wr.heap.size wr w' → w'.cell? ⟨b0, o0 + j * 4, none⟩ = some (.bool (fr j).1) ∧ w'.cell? ⟨b0, o0 + j * 4 + 1, none⟩ = some (.int .u32 ((fr j).2.1 : Int)) ∧ w'.cell? ⟨b0, o0 + j * 4 + 2, none⟩ = some (.bool (fr j).2.2.1) ∧ w'.cell? ⟨b0, o0 + j * 4 + 3, none⟩ = some (.string ⟨(fr j).2.2.2.toArray⟩)) := fun w' hb => HQ.out j (by omega) w' (below_joinK hA.out hb hA.out.size)
              have hjn : j < n := by omega
              by_cases he : Mm.kf (fr j) = Mm.kf (fr k)
              · have hC : (Fm.sgn (Mm.kf (fr k)) (Mm.kf (fr j)) == 0) = true := by rw [he]; unfold Fm.sgn; rw [if_neg (Nat.lt_irrefl _), if_neg (Nat.lt_irrefl _)]; rfl
                generalize Fm.sgn (Mm.kf (fr k)) (Mm.kf (fr j)) = C at *
                obtain ⟨fk, hfk⟩ : ∃ fk, fr k = fk := ⟨_, rfl⟩
                obtain ⟨fj, hfj⟩ : ∃ fj, fr j = fj := ⟨_, rfl⟩
                rw [hfk, hfj] at HCm
                rw [hfk] at HK
                rw [hfj] at HJ
                clear hfk hfj
                clear he
                go_wp2_with fail
                refine Lw.wp_region_quiet_below (by kernel_rfl) (by kernel_rfl) ?_
                repeat (first
                  | go_big_quiet_skip
                  | (go_big_quiet_want; go_big_quiet_op; go_big_quiet_on)
                  | (go_big_quiet_want; go_big_quiet_op; apply Exists.intro; refine ⟨fun _ hb' => ?_, ?_⟩; (first
                    | exact Lw.val_rfl _
                    | (go_at_call 10; exact Lw.calls_below hb' (HCm.out _ hb'))
                    | (simp [go_sem, (HK.out _ hb').1, (HK.out _ hb').2.1, (HK.out _ hb').2.2.1, (HK.out _ hb').2.2.2]; rfl)
                    | (simp [go_sem, (HJ.out _ hb').1, (HJ.out _ hb').2.1, (HJ.out _ hb').2.2.1, (HJ.out _ hb').2.2.2]; rfl)); go_big_quiet_on))
                refine wpQuiet_nil ?_
                intro w9 hb9
                have hA9 : Hid (Below W.heap.size W w9) := below_joinK hA.out hb9 hA.out.size
                clear hb9 HCm HK HJ
                go_wp2
                go_ret
                exact ⟨rfl, hA9.out⟩
              · have hC : (Fm.sgn (Mm.kf (fr k)) (Mm.kf (fr j)) == 0) = false := by
                  unfold Fm.sgn
                  rcases Nat.lt_or_gt_of_ne he with q | q
                  · rw [if_neg (by omega), if_pos q]; rfl
                  · rw [if_pos q]; rfl
                have HNe2 : Hid (∀ b, b < j + 1 → Mm.kf (fr b) ≠ Mm.kf (fr k)) := fun b hb => by
                  by_cases e : b = j
                  · subst e; exact he
                  · exact HNe.out b (by omega)
                generalize Fm.sgn (Mm.kf (fr k)) (Mm.kf (fr j)) = C at *
                obtain ⟨fk, hfk⟩ : ∃ fk, fr k = fk := ⟨_, rfl⟩
                obtain ⟨fj, hfj⟩ : ∃ fj, fr j = fj := ⟨_, rfl⟩
                rw [hfk, hfj] at HCm
                rw [hfk] at HK
                rw [hfj] at HJ
                clear hfk hfj
                clear he
                go_wp2_with fail
                refine Lw.wp_region_quiet_below (by kernel_rfl) (by kernel_rfl) ?_
                repeat (first
                  | go_big_quiet_skip
                  | (go_big_quiet_want; go_big_quiet_op; go_big_quiet_on)
                  | (go_big_quiet_want; go_big_quiet_op; apply Exists.intro; refine ⟨fun _ hb' => ?_, ?_⟩; (first
                    | exact Lw.val_rfl _
                    | (go_at_call 10; exact Lw.calls_below hb' (HCm.out _ hb'))
                    | (simp [go_sem, (HK.out _ hb').1, (HK.out _ hb').2.1, (HK.out _ hb').2.2.1, (HK.out _ hb').2.2.2]; rfl)
                    | (simp [go_sem, (HJ.out _ hb').1, (HJ.out _ hb').2.1, (HJ.out _ hb').2.2.1, (HJ.out _ hb').2.2.2]; rfl)); go_big_quiet_on))
                refine wpQuiet_nil ?_
                intro w9 hb9
                have hA9 : Hid (Below W.heap.size W w9) := below_joinK hA.out hb9 hA.out.size
                clear hb9 HCm HK HJ
                go_wp2
                go_roundw
                case rel => exact ⟨j + 1, by omega, rfl, HNe2, hA9⟩
                case measure => simp only [intOf]; omega
            · obtain rfl : j = k := by omega
              have HCk2 : Hid (Chk fr (j + 1)) := chk_next HCk.out HF.out HD.out HNe.out
              go_wp2
              go_roundw
              case rel => exact ⟨j + 1, by omega, rfl, HCk2, hA⟩
              case measure => simp only [intOf]; omega
    · obtain rfl : k = n := by omega
      have hC : Hid (Ctx W (fun g => wr.heap.size ≤ g) wr) := Ctx.from HT.out hA.out
      have HB0 : Hid (Mm.Bk k fr (fun j => decide (j < k)) [] k) := Mm.bk_start hn4 (fun j hj => (HCk.out.1 j hj).1) HCk.out.2
      have HL8 : Hid (∀ j, j < k → (fr j).2.2.2.length ≤ 1000) := fun j hj => by have := (HCk.out.1 j hj).2; omega
      clear hA HCk
      go_wp2_with fail
      refine (ow_new S 5 (by decide) hC.out).mono ?_
      rintro e w3 ⟨p, qs, qb, rfl, O', C', hk'⟩
      have HH0 : Hid (Hold At W (w3.alloc (.cells (wsC (fun _ => false)) 31)) w3.heap.size p (fun _ => false) (Mm.wnew 5 qs qb) none 0 []) := Hold.start S O' C'
      clear O' C' hk' hC
      generalize hg8 : w3.heap.size = g8 at HH0
      go_wp2_with fail
      try rw [hg8]
      clear hg8
      go_loopw [9] (fun i wr => ∃ j : Nat, j ≤ k ∧ i = .int .i64 j ∧ Hid (Hold At W wr g8 p (fun q => decide (q < j)) (Mm.wnew 5 qs qb) none 0 [])) (fun i _ => k - (intOf i).toNat)
      case atStart => exact ⟨0, Nat.zero_le _, rfl, HH0.out.ws (fun q hq => by simp)⟩
      case round =>
        clear HH0
        obtain ⟨j, hj, rfl, HH⟩ := hrel
        by_cases hjk : j < k
        · obtain ⟨x8, f8⟩ := HH.out.cell j (by omega)
          have HH2 : Hid (Hold At W (wr.setCell ⟨g8, j, none⟩ (.bool true)) g8 p (fun q => decide (q < j + 1)) (Mm.wnew 5 qs qb) none 0 []) := (HH.out.set S j (by omega) true).ws (fun q hq => by
            by_cases e : q = j
            · subst e; simp
            · rw [if_neg e]; apply decide_eq_decide.2; omega)
          generalize decide (j < j) = bz at x8
          clear HH
          go_wp2
          go_roundw
          case rel => exact ⟨j + 1, by omega, rfl, HH2⟩
          case measure => simp only [intOf]; omega
        · obtain rfl : j = k := by omega
          generalize hn0 : j = n at *
          clear hj hjk hlt hk hn0
          have HTp0 : Hid (Mm.Top8 n fr (fun q => decide (q < n)) (Mm.wnew 5 qs qb).ms 0) := Or.inl ⟨0, by decide, ⟨rfl, fun m hm => by rw [List.eq_of_mem_replicate hm]; exact Mm.P5_fresh⟩, rfl⟩
          go_wp2_with fail
          go_loopw [10, 6, 7] (fun i10 l6 o7 wr => ∃ (b r : Nat) (sO : Option Addr) (cO m : Nat) (ws : Nat → Bool) (V : Mm.Wi) (t : Nat) (O : List Cm.Fr), i10 = .int .i64 b ∧ l6 = .int .i64 r ∧ o7 = .slice sO m cO ∧ Hid (m = O.length) ∧ Hid (Mm.Bk n fr ws O r) ∧ Hid (Mm.Top8 n fr ws V.ms t) ∧ Hid (b ≤ (n - r) * 204 + t ∧ t ≤ 204 ∧ (r = 0 → t = 0)) ∧ Hid (V.bs.length = b) ∧ Hid (Hold At W wr g8 p ws V sO cO O)) (fun i10 _ _ _ => 900 - (intOf i10).toNat)
          case atStart => exact ⟨0, n, none, 0, 0, _, _, 0, [], rfl, rfl, rfl, rfl, HB0, HTp0, ⟨Nat.zero_le _, by omega, fun _ => rfl⟩, rfl, HH⟩
          case round =>
            clear HB0 HTp0 HH
            obtain ⟨b, r, sO, cO, m, ws, V, t, O, rfl, rfl, rfl, Hm, HBk, HTp, HBu, HBS, HH⟩ := hrel
            have hb9 : b < 900 := by
              have h1 := HBu.out
              have h2 : (n - r) * 204 ≤ 4 * 204 := Nat.mul_le_mul_right _ (by omega)
              by_cases hr : r = 0
              · have h4 := h1.2.2 hr
                omega
              · have h3 : (n - r) * 204 ≤ 3 * 204 := Nat.mul_le_mul_right _ (by omega)
                omega
            by_cases hr : r = 0
            · subst hr
              have hmn : m = n := by have h1 := HBk.out.len; have h2 := Hm.out; omega
              have HCm : Hid (∀ i a c, O[i]? = some a → O[i + 1]? = some c → ∀ w, Calls Tryd.prog 10 #[.agg #[.bool a.1, .int .u32 (a.2.1 : Int), .bool a.2.2.1, .string ⟨a.2.2.2.toArray⟩], .agg #[.bool c.1, .int .u32 (c.2.1 : Int), .bool c.2.2.1, .string ⟨c.2.2.2.toArray⟩]] w fun e w' => e = .returned (.int .i64 (-1)) ∧ Below w.heap.size w w') := fun i a c ha hc w => by
                obtain ⟨a1, ka, hka, ea⟩ := HBk.out.ok a (List.mem_of_getElem? ha)
                obtain ⟨c1, kc, hkc, ec⟩ := HBk.out.ok c (List.mem_of_getElem? hc)
                have h := cmp_call a1 c1 (by rw [ea]; exact HN.out ka hka) (by rw [ec]; exact HN.out kc hkc) w
                rw [Fm.sgn_lt (HBk.out.sorted i a c ha hc)] at h
                exact h
              have HOl : Hid (O.length = n) := by show _ = _; have h1 := HBk.out.len; omega
              rw [hmn]
              clear hmn HBk HTp HBu HBS Hm
              go_wp2_with fail
              go_loopw [17] (fun v wr => ∃ i : Nat, i + 1 ≤ n ∧ v = .int .i64 ((i : Int) + 1) ∧ Hid (Hold At W wr g8 p ws V sO cO O)) (fun v _ => n - (intOf v).toNat)
              case atStart => exact ⟨0, hn1, rfl, HH⟩
              case round =>
                clear HH
                obtain ⟨i, hi, rfl, HH⟩ := hrel
                by_cases hin : i + 1 < n
                · obtain ⟨a, ha⟩ : ∃ a, O[i]? = some a := ⟨_, List.getElem?_eq_getElem (by have := HOl.out; omega)⟩
                  obtain ⟨c, hc⟩ : ∃ c, O[i + 1]? = some c := ⟨_, List.getElem?_eq_getElem (by have := HOl.out; omega)⟩
                  obtain ⟨g, rfl, hk1, hk2, a0, a1, a2, a3⟩ := HH.out.ord.at i a ha
                  obtain ⟨g', hs', _, _, c0, c1, c2, c3⟩ := HH.out.ord.at (i + 1) c hc
                  obtain rfl : g = g' := by injection hs' with h; injection h
                  have HCa : Hid (∀ w', Below wr.heap.size wr w' → Calls Tryd.prog 10 #[.agg #[.bool a.1, .int .u32 (a.2.1 : Int), .bool a.2.2.1, .string ⟨a.2.2.2.toArray⟩], .agg #[.bool c.1, .int .u32 (c.2.1 : Int), .bool c.2.2.1, .string ⟨c.2.2.2.toArray⟩]] w' fun e w'' => e = .returned (.int .i64 (-1)) ∧ Below w'.heap.size w' w'') := fun w' _ => HCm.out i a c ha hc w'
                  have HKa : Hid (∀ w', Below wr.heap.size wr w' → w'.cell? ⟨g, i * 4, none⟩ = some (.bool a.1) ∧ w'.cell? ⟨g, i * 4 + 1, none⟩ = some (.int .u32 (a.2.1 : Int)) ∧ w'.cell? ⟨g, i * 4 + 2, none⟩ = some (.bool a.2.2.1) ∧ w'.cell? ⟨g, i * 4 + 3, none⟩ = some (.string ⟨a.2.2.2.toArray⟩)) := fun w' hb => ⟨cell_on8 hb a0, cell_on8 hb a1, cell_on8 hb a2, cell_on8 hb a3⟩
                  have HKc : Hid (∀ w', Below wr.heap.size wr w' → w'.cell? ⟨g, (i + 1) * 4, none⟩ = some (.bool c.1) ∧ w'.cell? ⟨g, (i + 1) * 4 + 1, none⟩ = some (.int .u32 (c.2.1 : Int)) ∧ w'.cell? ⟨g, (i + 1) * 4 + 2, none⟩ = some (.bool c.2.2.1) ∧ w'.cell? ⟨g, (i + 1) * 4 + 3, none⟩ = some (.string ⟨c.2.2.2.toArray⟩)) := fun w' hb => ⟨cell_on8 hb c0, cell_on8 hb c1, cell_on8 hb c2, cell_on8 hb c3⟩
                  have hinI : (i : Int) + 1 < (n : Int) := by omega
                  have hi0 : (i : Int) < (n : Int) := by omega
                  have hi4 : (i : Int) < 4 := by omega
                  clear ha hc hs' a0 a1 a2 a3 c0 c1 c2 c3 hk1 hk2
                  go_wp2_with fail
                  refine Lw.wp_region_quiet_below (by kernel_rfl) (by kernel_rfl) ?_
                  repeat (first
                    | go_big_quiet_skip
                    | (go_big_quiet_want; go_big_quiet_op; go_big_quiet_on)
                    | (go_big_quiet_want; go_big_quiet_op; apply Exists.intro; refine ⟨fun _ hb' => ?_, ?_⟩; (first
                      | exact Lw.val_rfl _
                      | (go_at_call 10; exact Lw.calls_below hb' (HCa.out _ hb'))
                      | (simp [go_sem, (HKa.out _ hb').1, (HKa.out _ hb').2.1, (HKa.out _ hb').2.2.1, (HKa.out _ hb').2.2.2]; rfl)
                      | (simp [go_sem, (HKc.out _ hb').1, (HKc.out _ hb').2.1, (HKc.out _ hb').2.2.1, (HKc.out _ hb').2.2.2]; rfl)); go_big_quiet_on))
                  refine wpQuiet_nil ?_
                  intro w9 hb9
                  have HH9 := HH.out.on S hb9
                  have HH9' : Hid (Hold At W w9 g8 p ws V (some ⟨g, 0, none⟩) cO O) := HH9
                  clear HH9 hb9 HCa HKa HKc HH
                  go_wp2
                  go_roundw
                  case rel => exact ⟨i + 1, by omega, by rw [Int.natCast_add]; rfl, HH9'⟩
                  case measure => simp only [intOf]; omega
                · have hinI : ¬ ((i : Int) + 1 < (n : Int)) := by omega
                  go_wp2
                  go_ret
                  exact ⟨rfl, HH.out.below⟩
            · have hr0 : 0 < r := by omega
              have hrn : r ≤ n := by have := HBk.out.len; omega
              have hVl : V.ms.length = 5 := by rcases HTp.out with ⟨_, _, h, _⟩ | ⟨_, _, _, _, _, h, _⟩ <;> exact h.1
              go_wp2_with fail
              go_loopw [12, 11] (fun i a wr => ∃ j : Nat, j ≤ 5 ∧ i = .int .i64 j ∧ a = .bool (Mm.idl (V.ms.take j)) ∧ Hid (Hold At W wr g8 p ws V sO cO O)) (fun i _ _ => 5 - (intOf i).toNat)
              case atStart => exact ⟨0, Nat.zero_le _, rfl, rfl, HH⟩
              case round =>
                clear HH
                obtain ⟨j, hj, rfl, rfl, HH⟩ := hrel
                by_cases hj5 : j < 5
                · obtain ⟨mm, hmm⟩ : ∃ mm, V.ms[j]? = some mm := ⟨_, List.getElem?_eq_getElem (by omega)⟩
                  have HSu : Hid (Mm.idl (V.ms.take (j + 1)) = (Mm.idl (V.ms.take j) && (decide (mm.ph = .idle) && !Mm.busy mm))) := idl_succ V.ms j mm hmm
                  have HMm : Hid (V.ms[j]? = some mm) := hmm
                  have HJl : Hid (j < V.ms.length) := by show _ < _; omega
                  clear hmm
                  generalize Mm.idl (V.ms.take j) = I0 at *
                  cases I0 with
                  | false =>
                    go_wp2
                    go_roundw
                    case rel => exact ⟨j + 1, by omega, rfl, by rw [HSu.out]; rfl, HH⟩
                    case measure => simp only [intOf]; omega
                  | true =>
                    obtain ⟨bi, hbi⟩ : ∃ bi, decide (mm.ph = .idle) = bi := ⟨_, rfl⟩
                    obtain ⟨bb, hbb⟩ : ∃ bb, Mm.busy mm = bb := ⟨_, rfl⟩
                    have HBi : Hid (decide (mm.ph = .idle) = bi) := hbi
                    have HBb : Hid (Mm.busy mm = bb) := hbb
                    rw [hbi, hbb] at HSu
                    clear hbi hbb
                    go_wp2_with fail
                    refine (ho_mac S j HJl.out HH.out).mono ?_
                    rintro e w4 ⟨rfl, H'⟩
                    replace HH : Hid (Hold At W w4 g8 p ws V sO cO O) := H'
                    clear H'
                    go_wp2_with fail
                    refine (ho_idle S j HMm.out HBi.out HH.out).mono ?_
                    rintro e w4b ⟨rfl, H'⟩
                    replace HH : Hid (Hold At W w4b g8 p ws V sO cO O) := H'
                    clear H'
                    cases bi with
                    | false =>
                      go_wp2
                      go_roundw
                      case rel => exact ⟨j + 1, by omega, rfl, by rw [HSu.out]; rfl, HH⟩
                      case measure => simp only [intOf]; omega
                    | true =>
                      go_wp2_with fail
                      refine (ho_mac S j HJl.out HH.out).mono ?_
                      rintro e w4c ⟨rfl, H'⟩
                      replace HH : Hid (Hold At W w4c g8 p ws V sO cO O) := H'
                      clear H'
                      go_wp2_with fail
                      refine (ho_busy S j HMm.out HBb.out HH.out).mono ?_
                      rintro e w4d ⟨rfl, H'⟩
                      replace HH : Hid (Hold At W w4d g8 p ws V sO cO O) := H'
                      clear H'
                      go_wp2
                      go_roundw
                      case rel => exact ⟨j + 1, by omega, rfl, by rw [HSu.out]; cases bb <;> rfl, HH⟩
                      case measure => simp only [intOf]; omega
                · have hId : V.ms.take j = V.ms := List.take_of_length_le (by omega)
                  rw [hId]
                  clear hId
                  rcases Mm.top_idle HTp.out with ⟨hid, hp3, ht3⟩ | ⟨hid, hgo⟩
                  · rw [hid]
                    have HP3 : Hid (Mm.PA 3 V.ms) := hp3
                    clear hid hp3
                    go_wp2_with fail
                    go_loopw [13] (fun i wr => ∃ (q : Nat) (V' : Mm.Wi), q ≤ n ∧ i = .int .i64 q ∧ Hid (Mm.Asked fr ws q V.ms V'.ms) ∧ Hid (V'.bs.length = b) ∧ Hid (Hold At W wr g8 p ws V' sO cO O)) (fun i _ => n - (intOf i).toNat)
                    case atStart => exact ⟨0, V, Nat.zero_le _, rfl, Mm.asked_zero _ _ _, HBS, HH⟩
                    case round =>
                      clear HH HBS
                      obtain ⟨q, V1, hq, rfl, HAs, HBS, HH⟩ := hrel
                      by_cases hqn : q < n
                      · obtain ⟨x8, f8⟩ := HH.out.cell q (by omega)
                        cases hwq : ws q with
                        | false =>
                          rw [hwq] at x8
                          have HAs2 : Hid (Mm.Asked fr ws (q + 1) V.ms V1.ms) := Mm.asked_skip HAs.out hwq
                          go_wp2
                          go_roundw
                          case rel => exact ⟨q + 1, V1, by omega, rfl, HAs2, HBS, HH⟩
                          case measure => simp only [intOf]; omega
                        | true =>
                          rw [hwq] at x8
                          obtain ⟨r0, r1, r2, r3⟩ := HQ.out q hqn wr HH.out.below
                          obtain ⟨V3, hask, has3, hbs3⟩ := Mm.asked_ask HP3.out HAs.out (by omega) (HBk.out.isf q hqn) hwq
                          have HAsk : Hid (Mm.wask V1 (q : Int) (fr q) = (0, V3)) := hask
                          have HAs2 : Hid (Mm.Asked fr ws (q + 1) V.ms V3.ms) := has3
                          have HBS2 : Hid (V3.bs.length = b) := by show _ = _; rw [hbs3]; exact HBS.out
                          clear hask has3 hbs3
                          go_wp2_with fail
                          refine (ho_ask S (q : Int) (fr q) HAsk.out (wf_small q (by omega)) (HN.out q hqn) (HL8.out q hqn) HH.out).mono ?_
                          rintro e w4 ⟨rfl, H'⟩
                          have HH2 : Hid (Hold At W w4 g8 p ws V3 sO cO O) := H'
                          clear H' r0 r1 r2 r3 x8 f8 HH HAsk
                          go_wp2
                          go_roundw
                          case rel => exact ⟨q + 1, V3, by omega, rfl, HAs2, HBS2, HH2⟩
                          case measure => simp only [intOf]; omega
                      · have eq : q = n := by omega
                        have HGo : Hid (Mm.Go8 n fr ws V1.ms t) := by
                          have := HAs.out
                          rw [eq] at this
                          rw [ht3]
                          exact Mm.go_asked HBk.out hr0 HP3.out this
                        clear HAs HP3 eq
                        have hbl : V1.bs.length ≤ 100000 := by rw [HBS.out]; omega
                        have hgs := Mm.go_step HBk.out HGo.out
                        go_wp2_with fail
                        refine (ho_step S2 false hbl HH.out).mono ?_
                        rintro e w5 ⟨sl, cp, rfl, EV', hsep, H'⟩
                        have HSep : Hid (∀ g o, sl = some ⟨g, o, none⟩ → g ≠ g8 ∧ ∀ q, sO = some q → q.block ≠ g) := hsep
                        have HH5 : Hid (Hold At W w5 g8 p ws (Mm.wnext V1 false) sO cO O) := H'
                        have EV : Hid (EvIn w5 sl cp (Mm.wtold V1 false)) := EV'
                        have HBS5 : Hid ((Mm.wnext V1 false).bs.length = b + 1) := by show (V1.bs ++ [_]).length = _; rw [List.length_append, HBS.out]; rfl
                        clear H' EV' hbl HH hsep
                        generalize Mm.wtold V1 false = E at *
                        generalize Mm.wnext V1 false = V2 at *
                        have cap1 := EV.out.1
                        have cap2 := EV.out.2.1
                        have hE9 : E.length ≤ 9223372036854775807 := by have h1 := cap1; have h2 := cap2; simp only [maxLen] at h2; omega
                        rcases hgs with ⟨hq, htop, ht⟩ | ⟨s, hw, rfl, ht, htop⟩
                        · have HKD : Hid (∀ v ∈ E, v.k = 2 ∨ v.k = 3 ∨ v.k = 6) := hq
                          have HTp : Hid (Mm.Top8 n fr ws V2.ms (t + 1)) := htop
                          clear hq htop
                          go_wp2_with fail
                          go_loopw [15, 6, 7] (fun j l6 o7 wr => ∃ q : Nat, q ≤ E.length ∧ j = .int .i64 q ∧ l6 = .int .i64 r ∧ o7 = .slice sO m cO ∧ Hid (Below w5.heap.size w5 wr)) (fun j _ _ _ => E.length - (intOf j).toNat)
                          case atStart => exact ⟨0, Nat.zero_le _, rfl, rfl, rfl, Below.refl _ _⟩
                          case round =>
                            obtain ⟨q, hq, rfl, rfl, rfl, HB⟩ := hrel
                            by_cases hql : q < E.length
                            · obtain ⟨v, hv⟩ : ∃ v, E[q]? = some v := ⟨_, List.getElem?_eq_getElem hql⟩
                              obtain ⟨g, o, rfl, hg, hc⟩ := (EV.out.on HB.out).at q v hv
                              have c0 : wr.cell? ⟨g, o + q * 6, none⟩ = some (.int .i64 (v.k : Int)) := hc 0 _ rfl
                              have hk := HKD.out v (List.mem_of_getElem? hv)
                              have k1 : ((v.k : Int) == 1) = false := by simp; omega
                              have k4 : ((v.k : Int) == 4) = false := by simp; omega
                              have k5 : ((v.k : Int) == 5) = false := by simp; omega
                              clear hc hv hk hg
                              generalize (v.k : Int) = vk at *
                              go_wp2
                              go_roundw
                              case rel => exact ⟨q + 1, by omega, rfl, rfl, rfl, HB⟩
                              case measure => simp only [intOf]; omega
                            · have HHr : Hid (Hold At W wr g8 p ws V2 sO cO O) := HH5.out.on S HB.out
                              clear HB EV cap1 cap2
                              go_wp2
                              go_roundw
                              case rel => exact ⟨b + 1, r, sO, cO, m, ws, V2, t + 1, O, rfl, rfl, rfl, Hm, HBk, HTp, ⟨by have := HBu.out.1; omega, by omega, fun e => absurd e hr⟩, HBS5, HHr⟩
                              case measure => simp only [intOf]; omega
                        · have HTp : Hid (Mm.Top8 n fr (fun k => ws k && decide (k ≠ s)) V2.ms 0) := htop
                          obtain ⟨hr0, hbk'⟩ := Mm.bk_sent HBk.out hw
                          have HBk2 : Hid (Mm.Bk n fr (fun k => ws k && decide (k ≠ s)) (O ++ [fr s]) (r - 1)) := hbk'
                          have HWn : Hid (Mm.Wn fr ws s) := hw
                          have hsn : s < n := HBk.out.lt s hw.1
                          have HT2 : Hid (t ≤ 203) := ht
                          have hrI : (r : Int) - 1 = ((r - 1 : Nat) : Int) := by omega
                          have hm4 : m ≤ 4 := by have h1 := HBk.out.len; have h2 := Hm.out; have h3 := HBk.out.n4; omega
                          clear htop hbk' hw ht
                          go_wp2_with fail
                          go_loopw [15, 6, 7] (fun j l6 o7 wr => (j = .int .i64 0 ∧ l6 = .int .i64 r ∧ o7 = .slice sO m cO ∧ Hid (Below w5.heap.size w5 wr)) ∨ (j = .int .i64 1 ∧ l6 = .int .i64 ((r - 1 : Nat) : Int) ∧ ∃ sN cN, o7 = .slice sN (m + 1) cN ∧ Hid (Hold At W wr g8 p (fun k => ws k && decide (k ≠ s)) V2 sN cN (O ++ [fr s])))) (fun j _ _ _ => 1 - (intOf j).toNat)
                          case atStart => exact Or.inl ⟨rfl, rfl, rfl, Below.refl _ _⟩
                          case round =>
                            rcases hrel with ⟨rfl, rfl, rfl, HB⟩ | ⟨rfl, rfl, sN, cN, rfl, HHn⟩
                            · obtain ⟨g, o, rfl, hg, hc⟩ := (EV.out.on HB.out).at 0 _ rfl
                              have c0 : wr.cell? ⟨g, o, none⟩ = some (.int .i64 1) := by have := hc 0 _ rfl; simpa using this
                              have c1 : wr.cell? ⟨g, o + 1, none⟩ = some (.bool (fr s).1) := by have := hc 1 _ rfl; simpa using this
                              have c2 : wr.cell? ⟨g, o + 2, none⟩ = some (.int .u32 ((fr s).2.1 : Int)) := by have := hc 2 _ rfl; simpa using this
                              have c3 : wr.cell? ⟨g, o + 3, none⟩ = some (.bool (fr s).2.2.1) := by have := hc 3 _ rfl; simpa using this
                              have c4 : wr.cell? ⟨g, o + 4, none⟩ = some (.string ⟨(fr s).2.2.2.toArray⟩) := by have := hc 4 _ rfl; simpa using this
                              have HHr : Hid (Hold At W wr g8 p ws V2 sO cO O) := HH5.out.on S HB.out
                              obtain ⟨OB, hOB⟩ : ∃ OB, OB = (Obj.cells #[.bool (fr s).1, .int .u32 ((fr s).2.1 : Int), .bool (fr s).2.2.1, .string ⟨(fr s).2.2.2.toArray⟩] 26) := ⟨_, rfl⟩
                              have hbA : Below wr.heap.size wr (wr.alloc OB) := (Below.refl _ _).alloc (Nat.le_refl _) _
                              have HHa : Hid (Hold At W (wr.alloc OB) g8 p ws V2 sO cO O) := HHr.out.on S hbA
                              have HFa : Hid (∀ j v, (frS (fr s))[j]? = some v → (wr.alloc OB).cell? ⟨wr.heap.size, j, none⟩ = some v) := fun j v hj => by
                                have hh : (wr.alloc OB).heap[wr.heap.size]? = some (.cells #[.bool (fr s).1, .int .u32 ((fr s).2.1 : Int), .bool (fr s).2.2.1, .string ⟨(fr s).2.2.2.toArray⟩] 26 (0, 0)) := by rw [hOB]; exact heap_alloc_new _ _
                                rw [cell_of_row _ _ _ _ _ _ hh]
                                have hj4 : j < 4 := (List.getElem?_eq_some_iff.1 hj).1
                                obtain rfl | rfl | rfl | rfl : j = 0 ∨ j = 1 ∨ j = 2 ∨ j = 3 := by omega
                                all_goals exact hj
                              have HEa : Hid (Below w5.heap.size w5 (wr.alloc OB)) := below_joinK HB.out hbA HB.out.size
                              have HZ : Hid (W.heap.size ≤ (wr.alloc OB).heap.size) := HHa.out.below.size
                              rw [hOB] at HHa HFa HEa HZ
                              clear hbA HB hc hg hOB HHr
                              go_wp2_with (refine wpList_append_fr rfl (.tmp 153) (.tmp 159) rfl (B := W.heap.size) (s := sO) (n := m) (cap := cO) (g := wr.heap.size) (c := 1) (l := O) (fr s) rfl rfl Hm.out HHa.out.ord HFa.out HZ.out (by have := Hm.out; omega) ?_; intro sN cN w6 hF6 hg6 hs6)
                              have HH6 : Hid (Hold At W w6 g8 p ws V2 sN cN (O ++ [fr s])) := HHa.out.app S hF6 hg6 hs6
                              have HE6 : Hid (Ev1F w6 g o (fr s)) := Ev1F.on (w := wr) ⟨c1, c2, c3, c4⟩ (by
                                have hgl : g < wr.heap.size := cell_lt8 c1
                                have hA : (wr.alloc (.cells #[.bool (fr s).1, .int .u32 ((fr s).2.1 : Int), .bool (fr s).2.2.1, .string ⟨(fr s).2.2.2.toArray⟩] 26)).heap[g]? = wr.heap[g]? := Below.heap_alloc _ _ _ hgl
                                rw [← hA]
                                refine hg6.block g (by simp; omega) (fun e => ?_)
                                cases hsO : sO with
                                | none => rw [hsO] at e; cases e
                                | some a => rw [hsO] at e; exact (HSep.out g o rfl).2 a hsO (by simpa using e.symm))
                              have HG8 : Hid (g ≠ g8) := (HSep.out g o rfl).1
                              clear hF6 hg6 hs6 HHa HFa HEa HZ c0 c1 c2 c3 c4
                              go_wp2_with fail
                              go_loopw [16] (fun i wr => ∃ j : Nat, j ≤ n ∧ i = .int .i64 j ∧ Hid (Hold At W wr g8 p (fun k => if k < j then ws k && decide (k ≠ s) else ws k) V2 sN cN (O ++ [fr s])) ∧ Hid (Ev1F wr g o (fr s))) (fun i _ => n - (intOf i).toNat)
                              case atStart => exact ⟨0, Nat.zero_le _, rfl, HH6, HE6⟩
                              case round =>
                                clear HH6 HE6
                                obtain ⟨j, hj, rfl, HHj, HEj⟩ := hrel
                                by_cases hjn : j < n
                                · have hj4 : (j : Int) < 4 := by omega
                                  have hjnI : (j : Int) < (n : Int) := by omega
                                  obtain ⟨r0, r1, r2, r3⟩ := HQ.out j hjn wr HHj.out.below
                                  obtain ⟨x8, f8⟩ := HHj.out.cell j (by omega)
                                  rw [if_neg (Nat.lt_irrefl _)] at x8
                                  obtain ⟨e1, e2, e3, e4⟩ := HEj.out
                                  have HNx : Hid (∀ bb, bb = (ws j && decide (j ≠ s)) → Hold At W (wr.setCell ⟨g8, j, none⟩ (.bool bb)) g8 p (fun k => if k < j + 1 then ws k && decide (k ≠ s) else ws k) V2 sN cN (O ++ [fr s]) ∧ Ev1F (wr.setCell ⟨g8, j, none⟩ (.bool bb)) g o (fr s)) := fun bb hbb => by
                                    refine ⟨(HHj.out.set S j (by omega) bb).ws (fun k hk => ?_), HEj.out.on (heap_setCell_other _ ⟨g8, j, none⟩ g _ HG8.out)⟩
                                    by_cases e : k = j
                                    · subst e; rw [if_pos rfl, if_pos (by omega), hbb]
                                    · rw [if_neg e]
                                      by_cases q : k < j
                                      · rw [if_pos q, if_pos (by omega)]
                                      · rw [if_neg q, if_neg (by omega)]
                                  cases hwj : ws j with
                                  | false =>
                                    rw [hwj] at x8
                                    have HN2 := HNx.out false (by rw [hwj]; rfl)
                                    have HN3 : Hid (Hold At W (wr.setCell ⟨g8, j, none⟩ (.bool false)) g8 p (fun k => if k < j + 1 then ws k && decide (k ≠ s) else ws k) V2 sN cN (O ++ [fr s]) ∧ Ev1F (wr.setCell ⟨g8, j, none⟩ (.bool false)) g o (fr s)) := HN2
                                    have HN7 : Hid (Hold At W (wr.drew.setCell ⟨g8, j, none⟩ (.bool false)) g8 p (fun k => if k < j + 1 then ws k && decide (k ≠ s) else ws k) V2 sN cN (O ++ [fr s]) ∧ Ev1F (wr.drew.setCell ⟨g8, j, none⟩ (.bool false)) g o (fr s)) := by
                                      have hb7 : Below (wr.setCell ⟨g8, j, none⟩ (.bool false)).heap.size (wr.setCell ⟨g8, j, none⟩ (.bool false)) (wr.drew.setCell ⟨g8, j, none⟩ (.bool false)) := (Below.refl _ _).drew
                                      exact ⟨HN3.out.1.on S hb7, HN3.out.2.on rfl⟩
                                    clear HN2 HNx HN3 hwj r0 r1 r2 r3 e1 e2 e3 e4
                                    go_wp2_with fail
                                    go_region
                                    all_goals
                                      clear x8 f8
                                      go_wp2
                                      go_roundw
                                      case rel => exact ⟨j + 1, by omega, rfl, HN7.out.1, HN7.out.2⟩
                                      case measure => simp only [intOf]; omega
                                  | true =>
                                    rw [hwj] at x8
                                    by_cases hjs : j = s
                                    · have HN2 := HNx.out false (by rw [hwj, hjs]; simp)
                                      have HN3 : Hid (Hold At W (wr.setCell ⟨g8, j, none⟩ (.bool false)) g8 p (fun k => if k < j + 1 then ws k && decide (k ≠ s) else ws k) V2 sN cN (O ++ [fr s]) ∧ Ev1F (wr.setCell ⟨g8, j, none⟩ (.bool false)) g o (fr s)) := HN2
                                      rw [hjs] at r0 r1 r2 r3
                                      have HJS : Hid (j = s) := hjs
                                      clear HN2 HNx hjs
                                      go_wp2_with fail
                                      refine Lw.region_tail 17 (by kernel_rfl) (by kernel_rfl) ?_
                                      intro w7 hw7
                                      have x7 : w7.cell? ⟨g8, j, none⟩ = some (.bool true) := by rw [hw7]; exact x8
                                      have f7 : w7.frozen? ⟨g8, j, none⟩ = false := by rw [hw7]; exact f8
                                      have HN7 : Hid (Hold At W (w7.setCell ⟨g8, j, none⟩ (.bool false)) g8 p (fun k => if k < j + 1 then ws k && decide (k ≠ s) else ws k) V2 sN cN (O ++ [fr s]) ∧ Ev1F (w7.setCell ⟨g8, j, none⟩ (.bool false)) g o (fr s)) := by
                                        have hb7 : Below (wr.setCell ⟨g8, j, none⟩ (.bool false)).heap.size (wr.setCell ⟨g8, j, none⟩ (.bool false)) (w7.setCell ⟨g8, j, none⟩ (.bool false)) := by rw [hw7]; exact (Below.refl _ _).drew
                                        exact ⟨HN3.out.1.on S hb7, HN3.out.2.on (by rw [hw7]; rfl)⟩
                                      have q0 : w7.cell? ⟨b0, o0 + j * 4, none⟩ = some (.bool (fr s).1) := by rw [hw7, HJS.out]; exact r0
                                      have q1 : w7.cell? ⟨b0, o0 + j * 4 + 1, none⟩ = some (.int .u32 ((fr s).2.1 : Int)) := by rw [hw7, HJS.out]; exact r1
                                      have q2 : w7.cell? ⟨b0, o0 + j * 4 + 2, none⟩ = some (.bool (fr s).2.2.1) := by rw [hw7, HJS.out]; exact r2
                                      have q3 : w7.cell? ⟨b0, o0 + j * 4 + 3, none⟩ = some (.string ⟨(fr s).2.2.2.toArray⟩) := by rw [hw7, HJS.out]; exact r3
                                      have d1 : w7.cell? ⟨g, o + 1, none⟩ = some (.bool (fr s).1) := by rw [hw7]; exact e1
                                      have d2 : w7.cell? ⟨g, o + 2, none⟩ = some (.int .u32 ((fr s).2.1 : Int)) := by rw [hw7]; exact e2
                                      have d3 : w7.cell? ⟨g, o + 3, none⟩ = some (.bool (fr s).2.2.1) := by rw [hw7]; exact e3
                                      have d4 : w7.cell? ⟨g, o + 4, none⟩ = some (.string ⟨(fr s).2.2.2.toArray⟩) := by rw [hw7]; exact e4
                                      clear hw7 x8 f8 HN3 r0 r1 r2 r3 e1 e2 e3 e4
                                      simp only [List.take_succ_cons, List.take_zero, List.drop_succ_cons, List.drop_zero]
                                      repeat (first | still_step)
                                      refine wpStill_nil ?_
                                      go_wp2
                                      go_roundw
                                      case rel => exact ⟨j + 1, by omega, rfl, HN7.out.1, HN7.out.2⟩
                                      case measure => simp only [intOf]; omega
                                    · have HN2 := HNx.out true (by rw [hwj]; simp [hjs])
                                      have HN3 : Hid (Hold At W (wr.setCell ⟨g8, j, none⟩ (.bool true)) g8 p (fun k => if k < j + 1 then ws k && decide (k ≠ s) else ws k) V2 sN cN (O ++ [fr s]) ∧ Ev1F (wr.setCell ⟨g8, j, none⟩ (.bool true)) g o (fr s)) := HN2
                                      have HD : Hid (¬ ((fr j).1 = (fr s).1 ∧ (fr j).2.1 = (fr s).2.1 ∧ (fr j).2.2.1 = (fr s).2.2.1)) := fun e => by
                                        have := HBk.out.ne j s hjn hsn hjs
                                        apply this
                                        unfold Mm.kf
                                        rw [e.1, e.2.1, e.2.2]
                                      obtain ⟨fj, hfj⟩ : ∃ fj, fr j = fj := ⟨_, rfl⟩
                                      obtain ⟨fs, hfs⟩ : ∃ fs, fr s = fs := ⟨_, rfl⟩
                                      rw [hfj] at r0 r1 r2 r3 HD
                                      rw [hfs] at e1 e2 e3 e4 HD
                                      clear HN2 HNx hjs hfj hfs
                                      go_wp2_with fail
                                      refine Lw.region_tail 17 (by kernel_rfl) (by kernel_rfl) ?_
                                      intro w7 hw7
                                      have x7 : w7.cell? ⟨g8, j, none⟩ = some (.bool true) := by rw [hw7]; exact x8
                                      have f7 : w7.frozen? ⟨g8, j, none⟩ = false := by rw [hw7]; exact f8
                                      have HN7 : Hid (Hold At W (w7.setCell ⟨g8, j, none⟩ (.bool true)) g8 p (fun k => if k < j + 1 then ws k && decide (k ≠ s) else ws k) V2 sN cN (O ++ [fr s]) ∧ Ev1F (w7.setCell ⟨g8, j, none⟩ (.bool true)) g o (fr s)) := by
                                        have hb7 : Below (wr.setCell ⟨g8, j, none⟩ (.bool true)).heap.size (wr.setCell ⟨g8, j, none⟩ (.bool true)) (w7.setCell ⟨g8, j, none⟩ (.bool true)) := by rw [hw7]; exact (Below.refl _ _).drew
                                        exact ⟨HN3.out.1.on S hb7, HN3.out.2.on (by rw [hw7]; rfl)⟩
                                      have q0 : w7.cell? ⟨b0, o0 + j * 4, none⟩ = some (.bool fj.1) := by rw [hw7]; exact r0
                                      have q1 : w7.cell? ⟨b0, o0 + j * 4 + 1, none⟩ = some (.int .u32 (fj.2.1 : Int)) := by rw [hw7]; exact r1
                                      have q2 : w7.cell? ⟨b0, o0 + j * 4 + 2, none⟩ = some (.bool fj.2.2.1) := by rw [hw7]; exact r2
                                      have q3 : w7.cell? ⟨b0, o0 + j * 4 + 3, none⟩ = some (.string ⟨fj.2.2.2.toArray⟩) := by rw [hw7]; exact r3
                                      have d1 : w7.cell? ⟨g, o + 1, none⟩ = some (.bool fs.1) := by rw [hw7]; exact e1
                                      have d2 : w7.cell? ⟨g, o + 2, none⟩ = some (.int .u32 (fs.2.1 : Int)) := by rw [hw7]; exact e2
                                      have d3 : w7.cell? ⟨g, o + 3, none⟩ = some (.bool fs.2.2.1) := by rw [hw7]; exact e3
                                      have d4 : w7.cell? ⟨g, o + 4, none⟩ = some (.string ⟨fs.2.2.2.toArray⟩) := by rw [hw7]; exact e4
                                      clear hw7 x8 f8 HN3 r0 r1 r2 r3 e1 e2 e3 e4
                                      simp only [List.take_succ_cons, List.take_zero, List.drop_succ_cons, List.drop_zero]
                                      repeat (first | still_step)
                                      refine wpStill_step (fun K hK => ?_)
                                      go_simp
                                      rw [ite4n HD.out]
                                      refine ⟨rfl, hK _ ?_⟩
                                      clear hK K
                                      repeat (first | still_step)
                                      refine wpStill_nil ?_
                                      go_wp2
                                      go_roundw
                                      case rel => exact ⟨j + 1, by omega, rfl, HN7.out.1, HN7.out.2⟩
                                      case measure => simp only [intOf]; omega
                                · have HHn : Hid (Hold At W wr g8 p (fun k => ws k && decide (k ≠ s)) V2 sN cN (O ++ [fr s])) := HHj.out.ws (fun k hk => by
                                    by_cases q : k < j
                                    · rw [if_pos q]
                                    · rw [if_neg q]
                                      cases hwk : ws k with
                                      | false => rfl
                                      | true => have := HBk.out.lt k hwk; omega)
                                  clear HHj HEj
                                  go_wp2
                                  go_roundw
                                  case rel => exact Or.inr ⟨rfl, by rw [← hrI], sN, cN, rfl, HHn⟩
                                  case measure => simp only [intOf]; omega
                            · clear EV cap1 cap2
                              go_wp2
                              go_roundw
                              case rel => exact ⟨b + 1, r - 1, sN, cN, m + 1, _, V2, 0, _, rfl, rfl, rfl, by show _ = _; rw [List.length_append, Hm.out]; rfl, HBk2, HTp, ⟨by have h1 := HBu.out.1; have h2 := HT2.out; have h3 : n - (r - 1) = (n - r) + 1 := (by omega); rw [h3, Nat.add_mul]; omega, by omega, fun _ => rfl⟩, HBS5, HHn⟩
                              case measure => simp only [intOf]; omega
                  · rw [hid]
                    have HGo : Hid (Mm.Go8 n fr ws V.ms t) := hgo
                    clear hid hgo
                    go_wp2_with fail
                    go_loopw [13] (fun i wr => i = .int .i64 0 ∧ Hid (Hold At W wr g8 p ws V sO cO O)) (fun _ _ => 0)
                    case atStart => exact ⟨rfl, HH⟩
                    case round =>
                      clear HH
                      obtain ⟨rfl, HH⟩ := hrel
                      have hn0 : 0 < n := by omega
                      have hbl : V.bs.length ≤ 100000 := by rw [HBS.out]; omega
                      have hgs := Mm.go_step HBk.out HGo.out
                      go_wp2_with fail
                      refine (ho_step S2 false hbl HH.out).mono ?_
                      rintro e w5 ⟨sl, cp, rfl, EV', hsep, H'⟩
                      have HSep : Hid (∀ g o, sl = some ⟨g, o, none⟩ → g ≠ g8 ∧ ∀ q, sO = some q → q.block ≠ g) := hsep
                      have HH5 : Hid (Hold At W w5 g8 p ws (Mm.wnext V false) sO cO O) := H'
                      have EV : Hid (EvIn w5 sl cp (Mm.wtold V false)) := EV'
                      have HBS5 : Hid ((Mm.wnext V false).bs.length = b + 1) := by show (V.bs ++ [_]).length = _; rw [List.length_append, HBS.out]; rfl
                      clear H' EV' hbl HH hsep
                      generalize Mm.wtold V false = E at *
                      generalize Mm.wnext V false = V2 at *
                      have cap1 := EV.out.1
                      have cap2 := EV.out.2.1
                      have hE9 : E.length ≤ 9223372036854775807 := by have h1 := cap1; have h2 := cap2; simp only [maxLen] at h2; omega
                      rcases hgs with ⟨hq, htop, ht⟩ | ⟨s, hw, rfl, ht, htop⟩
                      · have HKD : Hid (∀ v ∈ E, v.k = 2 ∨ v.k = 3 ∨ v.k = 6) := hq
                        have HTp : Hid (Mm.Top8 n fr ws V2.ms (t + 1)) := htop
                        clear hq htop
                        go_wp2_with fail
                        go_loopw [15, 6, 7] (fun j l6 o7 wr => ∃ q : Nat, q ≤ E.length ∧ j = .int .i64 q ∧ l6 = .int .i64 r ∧ o7 = .slice sO m cO ∧ Hid (Below w5.heap.size w5 wr)) (fun j _ _ _ => E.length - (intOf j).toNat)
                        case atStart => exact ⟨0, Nat.zero_le _, rfl, rfl, rfl, Below.refl _ _⟩
                        case round =>
                          obtain ⟨q, hq, rfl, rfl, rfl, HB⟩ := hrel
                          by_cases hql : q < E.length
                          · obtain ⟨v, hv⟩ : ∃ v, E[q]? = some v := ⟨_, List.getElem?_eq_getElem hql⟩
                            obtain ⟨g, o, rfl, hg, hc⟩ := (EV.out.on HB.out).at q v hv
                            have c0 : wr.cell? ⟨g, o + q * 6, none⟩ = some (.int .i64 (v.k : Int)) := hc 0 _ rfl
                            have hk := HKD.out v (List.mem_of_getElem? hv)
                            have k1 : ((v.k : Int) == 1) = false := by simp; omega
                            have k4 : ((v.k : Int) == 4) = false := by simp; omega
                            have k5 : ((v.k : Int) == 5) = false := by simp; omega
                            clear hc hv hk hg
                            generalize (v.k : Int) = vk at *
                            go_wp2
                            go_roundw
                            case rel => exact ⟨q + 1, by omega, rfl, rfl, rfl, HB⟩
                            case measure => simp only [intOf]; omega
                          · have HHr : Hid (Hold At W wr g8 p ws V2 sO cO O) := HH5.out.on S HB.out
                            clear HB EV cap1 cap2
                            go_wp2
                            go_roundw
                            case rel => exact ⟨b + 1, r, sO, cO, m, ws, V2, t + 1, O, rfl, rfl, rfl, Hm, HBk, HTp, ⟨by have := HBu.out.1; omega, by omega, fun e => absurd e hr⟩, HBS5, HHr⟩
                            case measure => simp only [intOf]; omega
                      · have HTp : Hid (Mm.Top8 n fr (fun k => ws k && decide (k ≠ s)) V2.ms 0) := htop
                        obtain ⟨hr0, hbk'⟩ := Mm.bk_sent HBk.out hw
                        have HBk2 : Hid (Mm.Bk n fr (fun k => ws k && decide (k ≠ s)) (O ++ [fr s]) (r - 1)) := hbk'
                        have HWn : Hid (Mm.Wn fr ws s) := hw
                        have hsn : s < n := HBk.out.lt s hw.1
                        have HT2 : Hid (t ≤ 203) := ht
                        have hrI : (r : Int) - 1 = ((r - 1 : Nat) : Int) := by omega
                        have hm4 : m ≤ 4 := by have h1 := HBk.out.len; have h2 := Hm.out; have h3 := HBk.out.n4; omega
                        clear htop hbk' hw ht
                        go_wp2_with fail
                        go_loopw [15, 6, 7] (fun j l6 o7 wr => (j = .int .i64 0 ∧ l6 = .int .i64 r ∧ o7 = .slice sO m cO ∧ Hid (Below w5.heap.size w5 wr)) ∨ (j = .int .i64 1 ∧ l6 = .int .i64 ((r - 1 : Nat) : Int) ∧ ∃ sN cN, o7 = .slice sN (m + 1) cN ∧ Hid (Hold At W wr g8 p (fun k => ws k && decide (k ≠ s)) V2 sN cN (O ++ [fr s])))) (fun j _ _ _ => 1 - (intOf j).toNat)
                        case atStart => exact Or.inl ⟨rfl, rfl, rfl, Below.refl _ _⟩
                        case round =>
                          rcases hrel with ⟨rfl, rfl, rfl, HB⟩ | ⟨rfl, rfl, sN, cN, rfl, HHn⟩
                          · obtain ⟨g, o, rfl, hg, hc⟩ := (EV.out.on HB.out).at 0 _ rfl
                            have c0 : wr.cell? ⟨g, o, none⟩ = some (.int .i64 1) := by have := hc 0 _ rfl; simpa using this
                            have c1 : wr.cell? ⟨g, o + 1, none⟩ = some (.bool (fr s).1) := by have := hc 1 _ rfl; simpa using this
                            have c2 : wr.cell? ⟨g, o + 2, none⟩ = some (.int .u32 ((fr s).2.1 : Int)) := by have := hc 2 _ rfl; simpa using this
                            have c3 : wr.cell? ⟨g, o + 3, none⟩ = some (.bool (fr s).2.2.1) := by have := hc 3 _ rfl; simpa using this
                            have c4 : wr.cell? ⟨g, o + 4, none⟩ = some (.string ⟨(fr s).2.2.2.toArray⟩) := by have := hc 4 _ rfl; simpa using this
                            have HHr : Hid (Hold At W wr g8 p ws V2 sO cO O) := HH5.out.on S HB.out
                            obtain ⟨OB, hOB⟩ : ∃ OB, OB = (Obj.cells #[.bool (fr s).1, .int .u32 ((fr s).2.1 : Int), .bool (fr s).2.2.1, .string ⟨(fr s).2.2.2.toArray⟩] 26) := ⟨_, rfl⟩
                            have hbA : Below wr.heap.size wr (wr.alloc OB) := (Below.refl _ _).alloc (Nat.le_refl _) _
                            have HHa : Hid (Hold At W (wr.alloc OB) g8 p ws V2 sO cO O) := HHr.out.on S hbA
                            have HFa : Hid (∀ j v, (frS (fr s))[j]? = some v → (wr.alloc OB).cell? ⟨wr.heap.size, j, none⟩ = some v) := fun j v hj => by
                              have hh : (wr.alloc OB).heap[wr.heap.size]? = some (.cells #[.bool (fr s).1, .int .u32 ((fr s).2.1 : Int), .bool (fr s).2.2.1, .string ⟨(fr s).2.2.2.toArray⟩] 26 (0, 0)) := by rw [hOB]; exact heap_alloc_new _ _
                              rw [cell_of_row _ _ _ _ _ _ hh]
                              have hj4 : j < 4 := (List.getElem?_eq_some_iff.1 hj).1
                              obtain rfl | rfl | rfl | rfl : j = 0 ∨ j = 1 ∨ j = 2 ∨ j = 3 := by omega
                              all_goals exact hj
                            have HEa : Hid (Below w5.heap.size w5 (wr.alloc OB)) := below_joinK HB.out hbA HB.out.size
                            have HZ : Hid (W.heap.size ≤ (wr.alloc OB).heap.size) := HHa.out.below.size
                            rw [hOB] at HHa HFa HEa HZ
                            clear hbA HB hc hg hOB HHr
                            go_wp2_with (refine wpList_append_fr rfl (.tmp 153) (.tmp 159) rfl (B := W.heap.size) (s := sO) (n := m) (cap := cO) (g := wr.heap.size) (c := 1) (l := O) (fr s) rfl rfl Hm.out HHa.out.ord HFa.out HZ.out (by have := Hm.out; omega) ?_; intro sN cN w6 hF6 hg6 hs6)
                            have HH6 : Hid (Hold At W w6 g8 p ws V2 sN cN (O ++ [fr s])) := HHa.out.app S hF6 hg6 hs6
                            have HE6 : Hid (Ev1F w6 g o (fr s)) := Ev1F.on (w := wr) ⟨c1, c2, c3, c4⟩ (by
                              have hgl : g < wr.heap.size := cell_lt8 c1
                              have hA : (wr.alloc (.cells #[.bool (fr s).1, .int .u32 ((fr s).2.1 : Int), .bool (fr s).2.2.1, .string ⟨(fr s).2.2.2.toArray⟩] 26)).heap[g]? = wr.heap[g]? := Below.heap_alloc _ _ _ hgl
                              rw [← hA]
                              refine hg6.block g (by simp; omega) (fun e => ?_)
                              cases hsO : sO with
                              | none => rw [hsO] at e; cases e
                              | some a => rw [hsO] at e; exact (HSep.out g o rfl).2 a hsO (by simpa using e.symm))
                            have HG8 : Hid (g ≠ g8) := (HSep.out g o rfl).1
                            clear hF6 hg6 hs6 HHa HFa HEa HZ c0 c1 c2 c3 c4
                            go_wp2_with fail
                            go_loopw [16] (fun i wr => ∃ j : Nat, j ≤ n ∧ i = .int .i64 j ∧ Hid (Hold At W wr g8 p (fun k => if k < j then ws k && decide (k ≠ s) else ws k) V2 sN cN (O ++ [fr s])) ∧ Hid (Ev1F wr g o (fr s))) (fun i _ => n - (intOf i).toNat)
                            case atStart => exact ⟨0, Nat.zero_le _, rfl, HH6, HE6⟩
                            case round =>
                              clear HH6 HE6
                              obtain ⟨j, hj, rfl, HHj, HEj⟩ := hrel
                              by_cases hjn : j < n
                              · have hj4 : (j : Int) < 4 := by omega
                                have hjnI : (j : Int) < (n : Int) := by omega
                                obtain ⟨r0, r1, r2, r3⟩ := HQ.out j hjn wr HHj.out.below
                                obtain ⟨x8, f8⟩ := HHj.out.cell j (by omega)
                                rw [if_neg (Nat.lt_irrefl _)] at x8
                                obtain ⟨e1, e2, e3, e4⟩ := HEj.out
                                have HNx : Hid (∀ bb, bb = (ws j && decide (j ≠ s)) → Hold At W (wr.setCell ⟨g8, j, none⟩ (.bool bb)) g8 p (fun k => if k < j + 1 then ws k && decide (k ≠ s) else ws k) V2 sN cN (O ++ [fr s]) ∧ Ev1F (wr.setCell ⟨g8, j, none⟩ (.bool bb)) g o (fr s)) := fun bb hbb => by
                                  refine ⟨(HHj.out.set S j (by omega) bb).ws (fun k hk => ?_), HEj.out.on (heap_setCell_other _ ⟨g8, j, none⟩ g _ HG8.out)⟩
                                  by_cases e : k = j
                                  · subst e; rw [if_pos rfl, if_pos (by omega), hbb]
                                  · rw [if_neg e]
                                    by_cases q : k < j
                                    · rw [if_pos q, if_pos (by omega)]
                                    · rw [if_neg q, if_neg (by omega)]
                                cases hwj : ws j with
                                | false =>
                                  rw [hwj] at x8
                                  have HN2 := HNx.out false (by rw [hwj]; rfl)
                                  have HN3 : Hid (Hold At W (wr.setCell ⟨g8, j, none⟩ (.bool false)) g8 p (fun k => if k < j + 1 then ws k && decide (k ≠ s) else ws k) V2 sN cN (O ++ [fr s]) ∧ Ev1F (wr.setCell ⟨g8, j, none⟩ (.bool false)) g o (fr s)) := HN2
                                  have HN7 : Hid (Hold At W (wr.drew.setCell ⟨g8, j, none⟩ (.bool false)) g8 p (fun k => if k < j + 1 then ws k && decide (k ≠ s) else ws k) V2 sN cN (O ++ [fr s]) ∧ Ev1F (wr.drew.setCell ⟨g8, j, none⟩ (.bool false)) g o (fr s)) := by
                                    have hb7 : Below (wr.setCell ⟨g8, j, none⟩ (.bool false)).heap.size (wr.setCell ⟨g8, j, none⟩ (.bool false)) (wr.drew.setCell ⟨g8, j, none⟩ (.bool false)) := (Below.refl _ _).drew
                                    exact ⟨HN3.out.1.on S hb7, HN3.out.2.on rfl⟩
                                  clear HN2 HNx HN3 hwj r0 r1 r2 r3 e1 e2 e3 e4
                                  go_wp2_with fail
                                  go_region
                                  all_goals
                                    clear x8 f8
                                    go_wp2
                                    go_roundw
                                    case rel => exact ⟨j + 1, by omega, rfl, HN7.out.1, HN7.out.2⟩
                                    case measure => simp only [intOf]; omega
                                | true =>
                                  rw [hwj] at x8
                                  by_cases hjs : j = s
                                  · have HN2 := HNx.out false (by rw [hwj, hjs]; simp)
                                    have HN3 : Hid (Hold At W (wr.setCell ⟨g8, j, none⟩ (.bool false)) g8 p (fun k => if k < j + 1 then ws k && decide (k ≠ s) else ws k) V2 sN cN (O ++ [fr s]) ∧ Ev1F (wr.setCell ⟨g8, j, none⟩ (.bool false)) g o (fr s)) := HN2
                                    rw [hjs] at r0 r1 r2 r3
                                    have HJS : Hid (j = s) := hjs
                                    clear HN2 HNx hjs
                                    go_wp2_with fail
                                    refine Lw.region_tail 17 (by kernel_rfl) (by kernel_rfl) ?_
                                    intro w7 hw7
                                    have x7 : w7.cell? ⟨g8, j, none⟩ = some (.bool true) := by rw [hw7]; exact x8
                                    have f7 : w7.frozen? ⟨g8, j, none⟩ = false := by rw [hw7]; exact f8
                                    have HN7 : Hid (Hold At W (w7.setCell ⟨g8, j, none⟩ (.bool false)) g8 p (fun k => if k < j + 1 then ws k && decide (k ≠ s) else ws k) V2 sN cN (O ++ [fr s]) ∧ Ev1F (w7.setCell ⟨g8, j, none⟩ (.bool false)) g o (fr s)) := by
                                      have hb7 : Below (wr.setCell ⟨g8, j, none⟩ (.bool false)).heap.size (wr.setCell ⟨g8, j, none⟩ (.bool false)) (w7.setCell ⟨g8, j, none⟩ (.bool false)) := by rw [hw7]; exact (Below.refl _ _).drew
                                      exact ⟨HN3.out.1.on S hb7, HN3.out.2.on (by rw [hw7]; rfl)⟩
                                    have q0 : w7.cell? ⟨b0, o0 + j * 4, none⟩ = some (.bool (fr s).1) := by rw [hw7, HJS.out]; exact r0
                                    have q1 : w7.cell? ⟨b0, o0 + j * 4 + 1, none⟩ = some (.int .u32 ((fr s).2.1 : Int)) := by rw [hw7, HJS.out]; exact r1
                                    have q2 : w7.cell? ⟨b0, o0 + j * 4 + 2, none⟩ = some (.bool (fr s).2.2.1) := by rw [hw7, HJS.out]; exact r2
                                    have q3 : w7.cell? ⟨b0, o0 + j * 4 + 3, none⟩ = some (.string ⟨(fr s).2.2.2.toArray⟩) := by rw [hw7, HJS.out]; exact r3
                                    have d1 : w7.cell? ⟨g, o + 1, none⟩ = some (.bool (fr s).1) := by rw [hw7]; exact e1
                                    have d2 : w7.cell? ⟨g, o + 2, none⟩ = some (.int .u32 ((fr s).2.1 : Int)) := by rw [hw7]; exact e2
                                    have d3 : w7.cell? ⟨g, o + 3, none⟩ = some (.bool (fr s).2.2.1) := by rw [hw7]; exact e3
                                    have d4 : w7.cell? ⟨g, o + 4, none⟩ = some (.string ⟨(fr s).2.2.2.toArray⟩) := by rw [hw7]; exact e4
                                    clear hw7 x8 f8 HN3 r0 r1 r2 r3 e1 e2 e3 e4
                                    simp only [List.take_succ_cons, List.take_zero, List.drop_succ_cons, List.drop_zero]
                                    repeat (first | still_step)
                                    refine wpStill_nil ?_
                                    go_wp2
                                    go_roundw
                                    case rel => exact ⟨j + 1, by omega, rfl, HN7.out.1, HN7.out.2⟩
                                    case measure => simp only [intOf]; omega
                                  · have HN2 := HNx.out true (by rw [hwj]; simp [hjs])
                                    have HN3 : Hid (Hold At W (wr.setCell ⟨g8, j, none⟩ (.bool true)) g8 p (fun k => if k < j + 1 then ws k && decide (k ≠ s) else ws k) V2 sN cN (O ++ [fr s]) ∧ Ev1F (wr.setCell ⟨g8, j, none⟩ (.bool true)) g o (fr s)) := HN2
                                    have HD : Hid (¬ ((fr j).1 = (fr s).1 ∧ (fr j).2.1 = (fr s).2.1 ∧ (fr j).2.2.1 = (fr s).2.2.1)) := fun e => by
                                      have := HBk.out.ne j s hjn hsn hjs
                                      apply this
                                      unfold Mm.kf
                                      rw [e.1, e.2.1, e.2.2]
                                    obtain ⟨fj, hfj⟩ : ∃ fj, fr j = fj := ⟨_, rfl⟩
                                    obtain ⟨fs, hfs⟩ : ∃ fs, fr s = fs := ⟨_, rfl⟩
                                    rw [hfj] at r0 r1 r2 r3 HD
                                    rw [hfs] at e1 e2 e3 e4 HD
                                    clear HN2 HNx hjs hfj hfs
                                    go_wp2_with fail
                                    refine Lw.region_tail 17 (by kernel_rfl) (by kernel_rfl) ?_
                                    intro w7 hw7
                                    have x7 : w7.cell? ⟨g8, j, none⟩ = some (.bool true) := by rw [hw7]; exact x8
                                    have f7 : w7.frozen? ⟨g8, j, none⟩ = false := by rw [hw7]; exact f8
                                    have HN7 : Hid (Hold At W (w7.setCell ⟨g8, j, none⟩ (.bool true)) g8 p (fun k => if k < j + 1 then ws k && decide (k ≠ s) else ws k) V2 sN cN (O ++ [fr s]) ∧ Ev1F (w7.setCell ⟨g8, j, none⟩ (.bool true)) g o (fr s)) := by
                                      have hb7 : Below (wr.setCell ⟨g8, j, none⟩ (.bool true)).heap.size (wr.setCell ⟨g8, j, none⟩ (.bool true)) (w7.setCell ⟨g8, j, none⟩ (.bool true)) := by rw [hw7]; exact (Below.refl _ _).drew
                                      exact ⟨HN3.out.1.on S hb7, HN3.out.2.on (by rw [hw7]; rfl)⟩
                                    have q0 : w7.cell? ⟨b0, o0 + j * 4, none⟩ = some (.bool fj.1) := by rw [hw7]; exact r0
                                    have q1 : w7.cell? ⟨b0, o0 + j * 4 + 1, none⟩ = some (.int .u32 (fj.2.1 : Int)) := by rw [hw7]; exact r1
                                    have q2 : w7.cell? ⟨b0, o0 + j * 4 + 2, none⟩ = some (.bool fj.2.2.1) := by rw [hw7]; exact r2
                                    have q3 : w7.cell? ⟨b0, o0 + j * 4 + 3, none⟩ = some (.string ⟨fj.2.2.2.toArray⟩) := by rw [hw7]; exact r3
                                    have d1 : w7.cell? ⟨g, o + 1, none⟩ = some (.bool fs.1) := by rw [hw7]; exact e1
                                    have d2 : w7.cell? ⟨g, o + 2, none⟩ = some (.int .u32 (fs.2.1 : Int)) := by rw [hw7]; exact e2
                                    have d3 : w7.cell? ⟨g, o + 3, none⟩ = some (.bool fs.2.2.1) := by rw [hw7]; exact e3
                                    have d4 : w7.cell? ⟨g, o + 4, none⟩ = some (.string ⟨fs.2.2.2.toArray⟩) := by rw [hw7]; exact e4
                                    clear hw7 x8 f8 HN3 r0 r1 r2 r3 e1 e2 e3 e4
                                    simp only [List.take_succ_cons, List.take_zero, List.drop_succ_cons, List.drop_zero]
                                    repeat (first | still_step)
                                    refine wpStill_step (fun K hK => ?_)
                                    go_simp
                                    rw [ite4n HD.out]
                                    refine ⟨rfl, hK _ ?_⟩
                                    clear hK K
                                    repeat (first | still_step)
                                    refine wpStill_nil ?_
                                    go_wp2
                                    go_roundw
                                    case rel => exact ⟨j + 1, by omega, rfl, HN7.out.1, HN7.out.2⟩
                                    case measure => simp only [intOf]; omega
                              · have HHn : Hid (Hold At W wr g8 p (fun k => ws k && decide (k ≠ s)) V2 sN cN (O ++ [fr s])) := HHj.out.ws (fun k hk => by
                                  by_cases q : k < j
                                  · rw [if_pos q]
                                  · rw [if_neg q]
                                    cases hwk : ws k with
                                    | false => rfl
                                    | true => have := HBk.out.lt k hwk; omega)
                                clear HHj HEj
                                go_wp2
                                go_roundw
                                case rel => exact Or.inr ⟨rfl, by rw [← hrI], sN, cN, rfl, HHn⟩
                                case measure => simp only [intOf]; omega
                          · clear EV cap1 cap2
                            go_wp2
                            go_roundw
                            case rel => exact ⟨b + 1, r - 1, sN, cN, m + 1, _, V2, 0, _, rfl, rfl, rfl, by show _ = _; rw [List.length_append, Hm.out]; rfl, HBk2, HTp, ⟨by have h1 := HBu.out.1; have h2 := HT2.out; have h3 : n - (r - 1) = (n - r) + 1 := (by omega); rw [h3, Nat.add_mul]; omega, by omega, fun _ => rfl⟩, HBS5, HHn⟩
                            case measure => simp only [intOf]; omega
theorem walkA (S : WireSpec At) (S2 : StepNew At) (s0 : Option Addr) (len0 cap0 : Nat) {w : World} (w0 : ∃ fr, FrRow w s0 len0 fr) (w' : World) (hw : w' = w) (hT : Tab w') :
    Calls Tryd.prog 3 #[.slice s0 len0 cap0] w' fun e w'' => e = .returned (.bool true) ∧ Below w'.heap.size w' w'' := by
  subst hw
  obtain ⟨fr, h0⟩ := w0
  by_cases h : len0 = 0 ∨ 4 < len0
  · exact short S s0 len0 cap0 h w' hT
  · rcases h0 with h0 | ⟨b, off, rfl, hc⟩
    · exact absurd (Or.inl h0) h
    · exact main S S2 b off len0 cap0 (by omega) (by omega) fr w' hT hc
end Go.Proofs.YtoohmpkhljfpbaaDoor.wireOrder
