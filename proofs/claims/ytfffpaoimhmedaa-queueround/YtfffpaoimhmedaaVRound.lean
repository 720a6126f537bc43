/- QueueRound: for every two bytes: as long as one is taken for one that is put it never refuses, and the order stays; no condition. -/
import Derived.Test.YtfffpaoimhmedaaVc
import Derived.ProofKit
import Derived.OpenShut
import Derived.Deep.CutBlock
namespace Go.Proofs.Ytfffpaoimhmedaa.queueRound
open Go.ChangeShapes Go.WideShapes Go.ChangeAt Go.RowKit
set_option linter.unusedVariables false
variable {At : Ob.A Vq.St}
set_option maxRecDepth 100000 in
set_option maxHeartbeats 8000000 in
theorem walkA (S : QueueSpec At) (c0 : Int) (w0 : (Lit.int .u8 c0).wf = true) (c1 : Int) (w1 : (Lit.int .u8 c1).wf = true) (W : World) :
    Calls Try.prog 5 #[.int .u8 c0, .int .u8 c1] W fun e w' => e = .returned (.bool true) ∧ Below W.heap.size W w' := by
  have HK : Hid (∀ w, Calls Try.prog 8 #[] w fun e w' => e = .returned (.bool true) ∧ Below w.heap.size w w') := fun w => known17_any S w
  obtain ⟨c0, rfl, b0⟩ := natU8v w0
  obtain ⟨n, rfl, b1⟩ := natU8v w1
  obtain ⟨k, hk⟩ : ∃ k : Nat, c0 % 4 + 1 = k := ⟨_, rfl⟩
  have ik : (c0 : Int) % 4 + 1 = (k : Int) := by omega
  have k1 : 1 ≤ k := by omega
  have k4 : k ≤ 4 := by omega
  have kb : (k : Int) ≤ 4 := by omega
  have nb : (n : Int) < 256 := by omega
  clear w0 w1 hk
  go_enter Try.func5, Try.ntmps5
  go_wp2_with fail
  refine (HK.out _).mono ?_
  rintro e w1 ⟨rfl, hb⟩
  have HB : Hid (Below W.heap.size W w1) := hb
  clear hb HK
  go_wp2_with fail
  refine (Qs.new (S.new w1 (k : Int) (wfn (by omega))) HB.out).mono ?_
  rintro e w2 ⟨p, rfl, hq⟩
  rw [Vq.held_eq rfl k1 k4] at hq
  have HQ : Hid (Qs At W w2 p ⟨k, []⟩ []) := hq
  clear hq HB
  have HPut : Hid (∀ (w : World) (s s' : Vq.St) (R : List (Nat × Obj)) (m x : Int) (b : ByteArray), Qs At W w p s R → (Lit.int .i64 m).wf = true → Vq.putS s ⟨m, b⟩ = s' → Vq.putE s = x → Calls Try.prog 12 #[Ob.ptr p, .int .i64 m, .string b] w fun e w' => e = .returned (.int .i64 x) ∧ Qs At W w' p s' R) := fun w s s' R m x b h hm h1 h2 => by subst h1 h2; exact Qs.turn (fun F hF => S.put w p F s m b hm hF) h
  have HTake : Hid (∀ (w : World) (s s' : Vq.St) (R : List (Nat × Obj)) (d : Vq.Dl) (x : Int), Qs At W w p s R → Vq.takeS s = s' → Vq.hd s = d → Vq.takeE s = x → Calls Try.prog 14 #[Ob.ptr p] w fun e w' => e = .returned (.tuple #[.agg #[.int .i64 d.msg, .string d.data], .int .i64 x]) ∧ Qs At W w' p s' R) := fun w s s' R d x h h1 h2 h3 => by subst h1 h2 h3; exact Qs.turn (fun F hF => S.take w p F s hF) h
  have HHead : Hid (∀ (w : World) (s : Vq.St) (R : List (Nat × Obj)) (d : Vq.Dl) (x : Bool), Qs At W w p s R → Vq.hd s = d → decide (0 < s.l.length) = x → Calls Try.prog 16 #[Ob.ptr p] w fun e w' => e = .returned (.tuple #[.agg #[.int .i64 d.msg, .string d.data], .bool x]) ∧ Qs At W w' p s R) := fun w s R d x h h2 h3 => by subst h2 h3; exact Qs.turn (fun F hF => S.head w p F s hF) h
  have HLen : Hid (∀ (w : World) (s : Vq.St) (R : List (Nat × Obj)) (x : Int), Qs At W w p s R → (s.l.length : Int) = x → Calls Try.prog 17 #[Ob.ptr p] w fun e w' => e = .returned (.int .i64 x) ∧ Qs At W w' p s R) := fun w s R x h h2 => by subst h2; exact Qs.turn (fun F hF => S.len w p F s hF) h
  have HAl : Hid (∀ (w : World) (s : Vq.St) (R : List (Nat × Obj)) (o : Obj), Qs At W w p s R → Qs At W (w.alloc o) p s ((w.heap.size, o) :: R)) := fun w s R o h => h.al S o
  go_upto_block 0 with fail
  clear ik
  go_wp2_with fail
  go_loopw [7] (fun vi wr => ∃ i : Nat, i ≤ k ∧ vi = .int .i64 (i : Int) ∧ Hid (Qs At W wr p ⟨k, rg ⟨#[120]⟩ 0 i⟩ [])) (fun vi _ => k - (intOf vi).toNat)
  case atStart => exact ⟨0, Nat.zero_le _, rfl, HQ⟩
  case round =>
    clear HQ
    obtain ⟨i, hi, rfl, HQ⟩ := hrel
    by_cases hik : i < k
    · have ii : (i : Int) < (k : Int) := by omega
      have ib : (i : Int) < 4 := by omega
      go_wp2_with fail
      refine (HPut.out _ _ ⟨k, rg ⟨#[120]⟩ 0 (i + 1)⟩ _ (i : Int) 0 ⟨#[120]⟩ HQ.out (wfn (by omega)) (by unfold Vq.putS; dsimp only; rw [rg_len, if_pos (by omega), rg_push _ (Nat.zero_le _)]) (by unfold Vq.putE; dsimp only; rw [rg_len, if_pos (by omega)])).mono ?_
      rintro e w3 ⟨rfl, hq⟩
      have HQ2 : Hid (Qs At W w3 p ⟨k, rg ⟨#[120]⟩ 0 (i + 1)⟩ []) := hq
      clear hq HQ
      go_wp2_with fail
      go_roundw
      case rel => exact ⟨i + 1, by omega, rfl, HQ2⟩
      case measure => simp only [intOf]; omega
    · obtain rfl : k = i := by omega
      have ii : ¬ ((k : Int) < (k : Int)) := by omega
      replace HQ : Hid (Qs At W wr p ⟨k, rg ⟨#[120]⟩ 0 (0 + k)⟩ []) := by rw [Nat.zero_add]; exact HQ
      go_upto_block 2 with fail
      go_wp2_with fail
      go_loopw [8, 9, 10, 11, 12] (fun vi _ _ _ _ wr => ∃ i : Nat, i ≤ n ∧ vi = .int .i64 (i : Int) ∧ Hid (Qs At W wr p ⟨k, rg ⟨#[120]⟩ i (i + k)⟩ [])) (fun vi _ _ _ _ _ => n - (intOf vi).toNat)
      case atStart => exact ⟨0, Nat.zero_le _, rfl, HQ⟩
      case round =>
        clear HQ
        obtain ⟨i, hin, rfl, HQ⟩ := hrel
        by_cases hil : i < n
        · have ini : (i : Int) < (n : Int) := by omega
          have ib : (i : Int) < 256 := by omega
          rw [rg_cons ⟨#[120]⟩ (show i < i + k by omega)] at HQ
          go_wp2_with fail
          refine (HHead.out _ _ _ ⟨(i : Int), ⟨#[120]⟩⟩ true HQ.out rfl (decide_eq_true (Nat.succ_pos _))).mono ?_
          rintro e w3 ⟨rfl, hq⟩
          have HQ2 : Hid (Qs At W (w3.alloc (.cells #[.int .i64 (i : Int), .string ⟨#[120]⟩] 35)) p ⟨k, ⟨(i : Int), ⟨#[120]⟩⟩ :: rg ⟨#[120]⟩ (i + 1) (i + k)⟩ ((w3.heap.size, (.cells #[.int .i64 (i : Int), .string ⟨#[120]⟩] 35)) :: [])) := HAl.out _ _ _ _ hq
          clear hq HQ
          dsimp only
          go_upto_region 14 with fail
          generalize w3.alloc (.cells #[.int .i64 (i : Int), .string ⟨#[120]⟩] 35) = v3 at HQ2 ⊢
          generalize w3.heap.size = g9 at HQ2 ⊢
          go_wp2_with fail
          refine (HTake.out _ _ ⟨k, rg ⟨#[120]⟩ (i + 1) (i + k)⟩ _ ⟨(i : Int), ⟨#[120]⟩⟩ 0 HQ2.out rfl rfl rfl).mono ?_
          rintro e w4 ⟨rfl, hq⟩
          have HQ3 : Hid (Qs At W (w4.alloc (.cells #[.int .i64 (i : Int), .string ⟨#[120]⟩] 35)) p ⟨k, rg ⟨#[120]⟩ (i + 1) (i + k)⟩ ((w4.heap.size, (.cells #[.int .i64 (i : Int), .string ⟨#[120]⟩] 35)) :: (g9, (.cells #[.int .i64 (i : Int), .string ⟨#[120]⟩] 35)) :: [])) := HAl.out _ _ _ _ hq
          clear hq HQ2
          dsimp only
          go_upto_region 15 with fail
          generalize w4.alloc (.cells #[.int .i64 (i : Int), .string ⟨#[120]⟩] 35) = v4 at HQ3 ⊢
          generalize w4.heap.size = g11 at HQ3 ⊢
          have a0 := row_cells (k := 0) (HQ3.out.row (g := g9) (o := (.cells #[.int .i64 (i : Int), .string ⟨#[120]⟩] 35)) (by simp)) rfl
          have a1 := row_cells (k := 1) (HQ3.out.row (g := g9) (o := (.cells #[.int .i64 (i : Int), .string ⟨#[120]⟩] 35)) (by simp)) rfl
          have d0 := row_cells (k := 0) (HQ3.out.row (g := g11) (o := (.cells #[.int .i64 (i : Int), .string ⟨#[120]⟩] 35)) (by simp)) rfl
          have d1 := row_cells (k := 1) (HQ3.out.row (g := g11) (o := (.cells #[.int .i64 (i : Int), .string ⟨#[120]⟩] 35)) (by simp)) rfl
          go_wp2_with fail
          refine (HPut.out _ _ ⟨k, rg ⟨#[120]⟩ (i + 1) (i + 1 + k)⟩ _ ((i : Int) + (k : Int)) 0 ⟨#[120]⟩ HQ3.out (WalkArith.wf_i64 ⟨by omega, by omega⟩) (by unfold Vq.putS; dsimp only; rw [rg_len, if_pos (by omega), show i + 1 + k = (i + k) + 1 by omega, ← rg_push _ (by omega)]; rfl) (by unfold Vq.putE; dsimp only; rw [rg_len, if_pos (by omega)])).mono ?_
          rintro e w5 ⟨rfl, hq⟩
          have HQ4 : Hid (Qs At W w5 p ⟨k, rg ⟨#[120]⟩ (i + 1) (i + 1 + k)⟩ []) := hq.drop
          clear hq HQ3 a0 a1 d0 d1
          go_wp2_with fail
          refine (HLen.out _ _ _ (k : Int) HQ4.out (by dsimp only; rw [rg_len]; omega)).mono ?_
          rintro e w6 ⟨rfl, hq⟩
          have HQ5 : Hid (Qs At W w6 p ⟨k, rg ⟨#[120]⟩ (i + 1) (i + 1 + k)⟩ []) := hq
          clear hq HQ4
          go_wp2_with fail
          go_roundw
          case rel => exact ⟨i + 1, by omega, rfl, HQ5⟩
          case measure => simp only [intOf]; omega
        · obtain rfl : n = i := by omega
          have ini : ¬ ((n : Int) < (n : Int)) := by omega
          have HBf : Hid (Below W.heap.size W wr) := HQ.out.bel
          go_wp2
          go_ret
          exact ⟨rfl, HBf.out⟩
end Go.Proofs.Ytfffpaoimhmedaa.queueRound
