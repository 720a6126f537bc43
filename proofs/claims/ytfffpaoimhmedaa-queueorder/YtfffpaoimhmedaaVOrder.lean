/- QueueOrder: for every two bytes and text: what is put comes out in order, as many as there is room for; a refused one changes nothing (texts of more than 40 bytes are let by); no condition. -/
import Derived.Test.YtfffpaoimhmedaaVc
import Derived.ProofKit
import Derived.OpenShut
import Derived.Deep.CutBlock
namespace Go.Proofs.Ytfffpaoimhmedaa.queueOrder
open Go.ChangeShapes Go.WideShapes Go.ChangeAt Go.RowKit
set_option linter.unusedVariables false
variable {At : Ob.A Vq.St}
set_option maxRecDepth 100000 in
set_option maxHeartbeats 8000000 in
theorem walkA (S : QueueSpec At) (c0 : Int) (w0 : (Lit.int .u8 c0).wf = true) (c1 : Int) (w1 : (Lit.int .u8 c1).wf = true) (D : ByteArray) (W : World) :
    Calls Try.prog 4 #[.int .u8 c0, .int .u8 c1, .string D] W fun e w' => e = .returned (.bool true) ∧ Below W.heap.size W w' := by
  have HK : Hid (∀ w, Calls Try.prog 8 #[] w fun e w' => e = .returned (.bool true) ∧ Below w.heap.size w w') := fun w => known17_any S w
  obtain ⟨c0, rfl, b0⟩ := natU8v w0
  obtain ⟨c1, rfl, b1⟩ := natU8v w1
  obtain ⟨k, hk⟩ : ∃ k : Nat, c0 % 4 + 1 = k := ⟨_, rfl⟩
  obtain ⟨N, hN⟩ : ∃ N : Nat, c1 % 10 = N := ⟨_, rfl⟩
  have ik : (c0 : Int) % 4 + 1 = (k : Int) := by omega
  have iN : (c1 : Int) % 10 = (N : Int) := by omega
  have k1 : 1 ≤ k := by omega
  have k4 : k ≤ 4 := by omega
  have kb : (k : Int) ≤ 4 := by omega
  have Nb : (N : Int) ≤ 9 := by omega
  clear w0 w1 hk hN
  go_enter Try.func4, Try.ntmps4
  go_wp2_with fail
  refine (HK.out _).mono ?_
  rintro e w1 ⟨rfl, hb⟩
  have HB : Hid (Below W.heap.size W w1) := hb
  clear hb HK
  by_cases hD : D.size ≤ 40
  rotate_left
  · have hDi : (40 : Int) < (D.size : Int) := by omega
    go_wp2
    go_ret
    exact ⟨rfl, HB.out⟩
  have hDi : ¬ ((40 : Int) < (D.size : Int)) := by omega
  go_wp2_with fail
  refine (Qs.new (S.new w1 (k : Int) (wfn (by omega))) HB.out).mono ?_
  rintro e w2 ⟨p, rfl, hq⟩
  rw [Vq.held_eq rfl k1 k4] at hq
  have HQ : Hid (Qs At W w2 p ⟨k, []⟩ []) := hq
  clear hq HB hDi hD
  have HPut : Hid (∀ (w : World) (s s' : Vq.St) (R : List (Nat × Obj)) (m x : Int) (b : ByteArray), Qs At W w p s R → (Lit.int .i64 m).wf = true → Vq.putS s ⟨m, b⟩ = s' → Vq.putE s = x → Calls Try.prog 12 #[Ob.ptr p, .int .i64 m, .string b] w fun e w' => e = .returned (.int .i64 x) ∧ Qs At W w' p s' R) := fun w s s' R m x b h hm h1 h2 => by subst h1 h2; exact Qs.turn (fun F hF => S.put w p F s m b hm hF) h
  have HTake : Hid (∀ (w : World) (s s' : Vq.St) (R : List (Nat × Obj)) (d : Vq.Dl) (x : Int), Qs At W w p s R → Vq.takeS s = s' → Vq.hd s = d → Vq.takeE s = x → Calls Try.prog 14 #[Ob.ptr p] w fun e w' => e = .returned (.tuple #[.agg #[.int .i64 d.msg, .string d.data], .int .i64 x]) ∧ Qs At W w' p s' R) := fun w s s' R d x h h1 h2 h3 => by subst h1 h2 h3; exact Qs.turn (fun F hF => S.take w p F s hF) h
  have HHead : Hid (∀ (w : World) (s : Vq.St) (R : List (Nat × Obj)) (d : Vq.Dl) (x : Bool), Qs At W w p s R → Vq.hd s = d → decide (0 < s.l.length) = x → Calls Try.prog 16 #[Ob.ptr p] w fun e w' => e = .returned (.tuple #[.agg #[.int .i64 d.msg, .string d.data], .bool x]) ∧ Qs At W w' p s R) := fun w s R d x h h2 h3 => by subst h2 h3; exact Qs.turn (fun F hF => S.head w p F s hF) h
  have HLen : Hid (∀ (w : World) (s : Vq.St) (R : List (Nat × Obj)) (x : Int), Qs At W w p s R → (s.l.length : Int) = x → Calls Try.prog 17 #[Ob.ptr p] w fun e w' => e = .returned (.int .i64 x) ∧ Qs At W w' p s R) := fun w s R x h h2 => by subst h2; exact Qs.turn (fun F hF => S.len w p F s hF) h
  have HAl : Hid (∀ (w : World) (s : Vq.St) (R : List (Nat × Obj)) (o : Obj), Qs At W w p s R → Qs At W (w.alloc o) p s ((w.heap.size, o) :: R)) := fun w s R o h => h.al S o
  go_upto_block 0 with fail
  clear ik
  go_wp2_with fail
  go_loopw [9, 10] (fun vi _ wr => ∃ i : Nat, i ≤ N ∧ vi = .int .i64 (i : Int) ∧ Hid (Qs At W wr p ⟨k, rg D 0 (min i k)⟩ [])) (fun vi _ _ => N - (intOf vi).toNat)
  case atStart => exact ⟨0, Nat.zero_le _, rfl, by rw [Nat.min_eq_left (Nat.zero_le _), rg_nil]; exact HQ⟩
  case round =>
    clear HQ
    obtain ⟨i, hi, rfl, HQ⟩ := hrel
    by_cases hiN : i < N
    · have ii : (i : Int) < (N : Int) := by omega
      have ib : (i : Int) < 9 := by omega
      by_cases hik : i < k
      · have iki : (i : Int) < (k : Int) := by omega
        have e1 : min i k = i := by omega
        have e2 : min (i + 1) k = i + 1 := by omega
        rw [e1] at HQ
        go_wp2_with fail
        refine (HPut.out _ _ ⟨k, rg D 0 (i + 1)⟩ _ (i : Int) 0 D HQ.out (wfn (by omega)) (by unfold Vq.putS; dsimp only; rw [rg_len, if_pos (by omega), rg_push D (Nat.zero_le _)]) (by unfold Vq.putE; dsimp only; rw [rg_len, if_pos (by omega)])).mono ?_
        rintro e w3 ⟨rfl, hq⟩
        have HQ2 : Hid (Qs At W w3 p ⟨k, rg D 0 (min (i + 1) k)⟩ []) := by rw [e2]; exact hq
        clear hq HQ e1 e2
        go_wp2_with fail
        go_roundw
        case rel => exact ⟨i + 1, by omega, rfl, HQ2⟩
        case measure => simp only [intOf]; omega
      · have iki : ¬ ((i : Int) < (k : Int)) := by omega
        have iki2 : (k : Int) ≤ (i : Int) := by omega
        have e1 : min i k = k := by omega
        have e2 : min (i + 1) k = k := by omega
        rw [e1] at HQ
        go_wp2_with fail
        refine (HPut.out _ _ ⟨k, rg D 0 k⟩ _ (i : Int) 170 D HQ.out (wfn (by omega)) (by unfold Vq.putS; dsimp only; rw [rg_len, if_neg (by omega)]) (by unfold Vq.putE; dsimp only; rw [rg_len, if_neg (by omega)])).mono ?_
        rintro e w3 ⟨rfl, hq⟩
        have HQ1 : Hid (Qs At W w3 p ⟨k, rg D 0 k⟩ []) := hq
        clear hq HQ
        go_wp2_with fail
        refine (HLen.out _ _ _ (k : Int) HQ1.out (by dsimp only; rw [rg_len]; omega)).mono ?_
        rintro e w4 ⟨rfl, hq⟩
        have HQ2 : Hid (Qs At W w4 p ⟨k, rg D 0 (min (i + 1) k)⟩ []) := by rw [e2]; exact hq
        clear hq HQ1 e1 e2
        go_wp2_with fail
        go_roundw
        case rel => exact ⟨i + 1, by omega, rfl, HQ2⟩
        case measure => simp only [intOf]; omega
    · obtain rfl : i = N := by omega
      have ii : ¬ ((i : Int) < (i : Int)) := by omega
      go_upto_block 2 with fail
      by_cases hik : i ≤ k
      · have iM : (i : Int) ≤ (k : Int) := by omega
        rw [Nat.min_eq_left hik] at HQ
        have ib : (i : Int) ≤ 4 := by omega
        go_wp2_with fail
        go_loopw [11, 12, 13] (fun vi _ _ wr => ∃ j : Nat, j ≤ i ∧ vi = .int .i64 (j : Int) ∧ Hid (Qs At W wr p ⟨k, rg D j i⟩ [])) (fun vi _ _ _ => i - (intOf vi).toNat)
        case atStart => exact ⟨0, Nat.zero_le _, rfl, HQ⟩
        case round =>
          clear HQ
          obtain ⟨j, hj, rfl, HQ⟩ := hrel
          by_cases hjM : j < i
          · have ji : (j : Int) < (i : Int) := by omega
            have jb : (j : Int) < 4 := by omega
            rw [rg_cons D hjM] at HQ
            go_wp2_with fail
            refine (HTake.out _ _ ⟨k, rg D (j + 1) i⟩ _ ⟨(j : Int), D⟩ 0 HQ.out rfl rfl rfl).mono ?_
            rintro e w3 ⟨rfl, hq⟩
            have HQ2 : Hid (Qs At W (w3.alloc (.cells #[.int .i64 (j : Int), .string D] 35)) p ⟨k, rg D (j + 1) i⟩ ((w3.heap.size, (.cells #[.int .i64 (j : Int), .string D] 35)) :: [])) := HAl.out _ _ _ _ hq
            clear hq HQ
            dsimp only
            go_upto_region 17 with fail
            generalize w3.alloc (.cells #[.int .i64 (j : Int), .string D] 35) = v3 at HQ2 ⊢
            generalize w3.heap.size = gd at HQ2 ⊢
            have a0 := row_cells (k := 0) (HQ2.out.row (g := gd) (o := .cells #[.int .i64 (j : Int), .string D] 35) (by simp)) rfl
            have a1 := row_cells (k := 1) (HQ2.out.row (g := gd) (o := .cells #[.int .i64 (j : Int), .string D] 35) (by simp)) rfl
            have HQ3 : Hid (Qs At W v3 p ⟨k, rg D (j + 1) i⟩ []) := HQ2.out.drop
            clear HQ2
            go_wp2_with fail
            go_roundw
            case rel => exact ⟨j + 1, by omega, rfl, HQ3⟩
            case measure => simp only [intOf]; omega
          · obtain rfl : i = j := by omega
            have ji : ¬ ((i : Int) < (i : Int)) := by omega
            rw [rg_nil] at HQ
            go_wp2_with fail
            refine (HTake.out _ _ ⟨k, []⟩ _ Vq.Dl.no 171 HQ.out rfl rfl rfl).mono ?_
            rintro e w3 ⟨rfl, hq⟩
            have HQ2 : Hid (Qs At W (w3.alloc (.cells #[.int .i64 Vq.Dl.no.msg, .string Vq.Dl.no.data] 35)) p ⟨k, []⟩ ((w3.heap.size, (.cells #[.int .i64 Vq.Dl.no.msg, .string Vq.Dl.no.data] 35)) :: [])) := HAl.out _ _ _ _ hq
            clear hq HQ
            go_upto_region 20 with fail
            generalize w3.alloc (.cells #[.int .i64 Vq.Dl.no.msg, .string Vq.Dl.no.data] 35) = v3 at HQ2 ⊢
            generalize w3.heap.size = gd at HQ2 ⊢
            go_wp2_with fail
            refine (HPut.out _ _ ⟨k, [⟨7, D⟩]⟩ _ 7 0 D HQ2.out (by decide) (by unfold Vq.putS; dsimp only; rw [if_pos (by show 0 < k; omega)]; rfl) (by unfold Vq.putE; dsimp only; rw [if_pos (by show 0 < k; omega)])).mono ?_
            rintro e w4 ⟨rfl, hq⟩
            have HQ3 : Hid (Qs At W w4 p ⟨k, [⟨7, D⟩]⟩ []) := hq.drop
            clear hq HQ2
            go_wp2_with fail
            refine (HLen.out _ _ _ 1 HQ3.out rfl).mono ?_
            rintro e w5 ⟨rfl, hq⟩
            have HBf : Hid (Below W.heap.size W w5) := hq.bel
            clear hq HQ3
            go_wp2
            go_ret
            exact ⟨rfl, HBf.out⟩
      · have iM : ¬ ((i : Int) ≤ (k : Int)) := by omega
        have iM2 : (k : Int) ≤ (i : Int) := by omega
        rw [Nat.min_eq_right (by omega)] at HQ
        go_wp2_with fail
        go_loopw [11, 12, 13] (fun vi _ _ wr => ∃ j : Nat, j ≤ k ∧ vi = .int .i64 (j : Int) ∧ Hid (Qs At W wr p ⟨k, rg D j k⟩ [])) (fun vi _ _ _ => k - (intOf vi).toNat)
        case atStart => exact ⟨0, Nat.zero_le _, rfl, HQ⟩
        case round =>
          clear HQ
          obtain ⟨j, hj, rfl, HQ⟩ := hrel
          by_cases hjM : j < k
          · have ji : (j : Int) < (k : Int) := by omega
            have jb : (j : Int) < 4 := by omega
            rw [rg_cons D hjM] at HQ
            go_wp2_with fail
            refine (HTake.out _ _ ⟨k, rg D (j + 1) k⟩ _ ⟨(j : Int), D⟩ 0 HQ.out rfl rfl rfl).mono ?_
            rintro e w3 ⟨rfl, hq⟩
            have HQ2 : Hid (Qs At W (w3.alloc (.cells #[.int .i64 (j : Int), .string D] 35)) p ⟨k, rg D (j + 1) k⟩ ((w3.heap.size, (.cells #[.int .i64 (j : Int), .string D] 35)) :: [])) := HAl.out _ _ _ _ hq
            clear hq HQ
            dsimp only
            go_upto_region 17 with fail
            generalize w3.alloc (.cells #[.int .i64 (j : Int), .string D] 35) = v3 at HQ2 ⊢
            generalize w3.heap.size = gd at HQ2 ⊢
            have a0 := row_cells (k := 0) (HQ2.out.row (g := gd) (o := .cells #[.int .i64 (j : Int), .string D] 35) (by simp)) rfl
            have a1 := row_cells (k := 1) (HQ2.out.row (g := gd) (o := .cells #[.int .i64 (j : Int), .string D] 35) (by simp)) rfl
            have HQ3 : Hid (Qs At W v3 p ⟨k, rg D (j + 1) k⟩ []) := HQ2.out.drop
            clear HQ2
            go_wp2_with fail
            go_roundw
            case rel => exact ⟨j + 1, by omega, rfl, HQ3⟩
            case measure => simp only [intOf]; omega
          · obtain rfl : k = j := by omega
            have ji : ¬ ((k : Int) < (k : Int)) := by omega
            rw [rg_nil] at HQ
            go_wp2_with fail
            refine (HTake.out _ _ ⟨k, []⟩ _ Vq.Dl.no 171 HQ.out rfl rfl rfl).mono ?_
            rintro e w3 ⟨rfl, hq⟩
            have HQ2 : Hid (Qs At W (w3.alloc (.cells #[.int .i64 Vq.Dl.no.msg, .string Vq.Dl.no.data] 35)) p ⟨k, []⟩ ((w3.heap.size, (.cells #[.int .i64 Vq.Dl.no.msg, .string Vq.Dl.no.data] 35)) :: [])) := HAl.out _ _ _ _ hq
            clear hq HQ
            go_upto_region 20 with fail
            generalize w3.alloc (.cells #[.int .i64 Vq.Dl.no.msg, .string Vq.Dl.no.data] 35) = v3 at HQ2 ⊢
            generalize w3.heap.size = gd at HQ2 ⊢
            go_wp2_with fail
            refine (HPut.out _ _ ⟨k, [⟨7, D⟩]⟩ _ 7 0 D HQ2.out (by decide) (by unfold Vq.putS; dsimp only; rw [if_pos (by show 0 < k; omega)]; rfl) (by unfold Vq.putE; dsimp only; rw [if_pos (by show 0 < k; omega)])).mono ?_
            rintro e w4 ⟨rfl, hq⟩
            have HQ3 : Hid (Qs At W w4 p ⟨k, [⟨7, D⟩]⟩ []) := hq.drop
            clear hq HQ2
            go_wp2_with fail
            refine (HLen.out _ _ _ 1 HQ3.out rfl).mono ?_
            rintro e w5 ⟨rfl, hq⟩
            have HBf : Hid (Below W.heap.size W w5) := hq.bel
            clear hq HQ3
            go_wp2
            go_ret
            exact ⟨rfl, HBf.out⟩
end Go.Proofs.Ytfffpaoimhmedaa.queueOrder
