/- QueueRooms: for every number: rooms beyond their bounds are held; told lists aren't the queue's own; no condition. -/
import Derived.Test.YtfffpaoimhmedaaVc
import Derived.Test.YtfffpaoimhmedaaVd
import Derived.ProofKit
import Derived.OpenShut
import Derived.Deep.CutBlock
namespace Go.Proofs.Ytfffpaoimhmedaa.queueRooms
open Go.ChangeShapes Go.WideShapes Go.ChangeAt Go.RowKit
set_option linter.unusedVariables false
variable {At : Ob.A Vq.St}
set_option maxRecDepth 100000 in
set_option maxHeartbeats 8000000 in
theorem walkA (S : QueueSpec At) (r : Int) (w0 : (Lit.int .i64 r).wf = true) (W : World) :
    Calls Try.prog 7 #[.int .i64 r] W fun e w' => e = .returned (.bool true) ∧ Below W.heap.size W w' := by
  have HK : Hid (∀ w, Calls Try.prog 8 #[] w fun e w' => e = .returned (.bool true) ∧ Below w.heap.size w w') := fun w => known17_any S w
  obtain ⟨k, hk⟩ : ∃ k : Nat, Vq.held r = k := ⟨_, rfl⟩
  have k1 : 1 ≤ k := by have := Vq.held_rng r; omega
  have k4 : k ≤ 4 := by have := Vq.held_rng r; omega
  have kb : (k : Int) ≤ 4 := by omega
  have hm1 : max 1 (min r 4) = (k : Int) := by rw [← hk]; unfold Vq.held; omega
  obtain ⟨m0, hm0⟩ : ∃ m0, min r 4 = m0 := ⟨_, rfl⟩
  have hm2 : max 1 m0 = (k : Int) := by rw [← hm0]; exact hm1
  have HKe : Hid (Vq.held r = k) := hk
  have HW0 : Hid ((Lit.int .i64 r).wf = true) := w0
  clear w0 hk hm1
  go_enter Try.func7, Try.ntmps7
  go_wp2_with fail
  refine (HK.out _).mono ?_
  rintro e w1 ⟨rfl, hb⟩
  have HB : Hid (Below W.heap.size W w1) := hb
  clear hb HK
  go_wp2_with fail
  refine (Qs.new (S.new w1 r HW0.out) HB.out).mono ?_
  rintro e w2 ⟨p, rfl, hq⟩
  rw [HKe.out] at hq
  have HQ : Hid (Qs At W w2 p ⟨k, []⟩ []) := hq
  clear hq HB
  have HPut : Hid (∀ (w : World) (s s' : Vq.St) (R : List (Nat × Obj)) (m x : Int) (b : ByteArray), Qs At W w p s R → (Lit.int .i64 m).wf = true → Vq.putS s ⟨m, b⟩ = s' → Vq.putE s = x → Calls Try.prog 12 #[Ob.ptr p, .int .i64 m, .string b] w fun e w' => e = .returned (.int .i64 x) ∧ Qs At W w' p s' R) := fun w s s' R m x b h hm h1 h2 => by subst h1 h2; exact Qs.turn (fun F hF => S.put w p F s m b hm hF) h
  have HTake : Hid (∀ (w : World) (s s' : Vq.St) (R : List (Nat × Obj)) (d : Vq.Dl) (x : Int), Qs At W w p s R → Vq.takeS s = s' → Vq.hd s = d → Vq.takeE s = x → Calls Try.prog 14 #[Ob.ptr p] w fun e w' => e = .returned (.tuple #[.agg #[.int .i64 d.msg, .string d.data], .int .i64 x]) ∧ Qs At W w' p s' R) := fun w s s' R d x h h1 h2 h3 => by subst h1 h2 h3; exact Qs.turn (fun F hF => S.take w p F s hF) h
  have HHead : Hid (∀ (w : World) (s : Vq.St) (R : List (Nat × Obj)) (d : Vq.Dl) (x : Bool), Qs At W w p s R → Vq.hd s = d → decide (0 < s.l.length) = x → Calls Try.prog 16 #[Ob.ptr p] w fun e w' => e = .returned (.tuple #[.agg #[.int .i64 d.msg, .string d.data], .bool x]) ∧ Qs At W w' p s R) := fun w s R d x h h2 h3 => by subst h2 h3; exact Qs.turn (fun F hF => S.head w p F s hF) h
  have HLen : Hid (∀ (w : World) (s : Vq.St) (R : List (Nat × Obj)) (x : Int), Qs At W w p s R → (s.l.length : Int) = x → Calls Try.prog 17 #[Ob.ptr p] w fun e w' => e = .returned (.int .i64 x) ∧ Qs At W w' p s R) := fun w s R x h h2 => by subst h2; exact Qs.turn (fun F hF => S.len w p F s hF) h
  have HAl : Hid (∀ (w : World) (s : Vq.St) (R : List (Nat × Obj)) (o : Obj), Qs At W w p s R → Qs At W (w.alloc o) p s ((w.heap.size, o) :: R)) := fun w s R o h => h.al S o
  go_upto_region 4 with fail
  go_cut [4] from 14 to 16 (fun v4 wx => v4 = .int .i64 (k : Int) ∧ wx = w2)
  case first =>
    by_cases h4 : r ≤ 4
    · have h4' : ¬ (4 < r) := by omega
      by_cases h1 : 1 ≤ r
      · have h1' : ¬ (r < 1) := by omega
        have ek : r = (k : Int) := by omega
        have EK : Hid (r = (k : Int)) := ek
        clear ek hm0 hm2
        go_wp2_with fail
        all_goals
          go_meet
          case rel => exact ⟨by first | rw [EK.out] | (congr 1; have := EK.out; omega), rfl⟩
      · have h1' : r < 1 := by omega
        have EK : Hid ((1 : Int) = (k : Int)) := by show _ = _; omega
        clear hm0 hm2
        go_wp2_with fail
        go_meet
        case rel => exact ⟨by rw [EK.out], rfl⟩
    · have h4' : 4 < r := by omega
      have EK : Hid ((4 : Int) = (k : Int)) := by show _ = _; omega
      clear hm0 hm2
      go_wp2_with fail
      go_meet
      case rel => exact ⟨by rw [EK.out], rfl⟩
  case rest =>
   obtain ⟨rfl, rfl⟩ := hcut
   clear hm0 hm2
   go_upto_block 0 with fail
   go_wp2_with fail
   go_loopw [6, 5] (fun vi vn wr => ∃ i : Nat, i ≤ 10 ∧ vi = .int .i64 (i : Int) ∧ vn = .int .i64 ((min i k : Nat) : Int) ∧ Hid (Qs At W wr p ⟨k, rg ⟨#[]⟩ 0 (min i k)⟩ [])) (fun vi _ _ => 10 - (intOf vi).toNat)
   case atStart => exact ⟨0, Nat.zero_le _, rfl, by rw [Nat.min_eq_left (Nat.zero_le _)]; rfl, by rw [Nat.min_eq_left (Nat.zero_le _), rg_nil]; exact HQ⟩
   case round =>
     clear HQ
     obtain ⟨i, hi, rfl, rfl, HQ⟩ := hrel
     by_cases hiN : i < 10
     · have ii : (i : Int) < 10 := by omega
       by_cases hik : i < k
       · have e1 : min i k = i := by omega
         have e2 : min (i + 1) k = i + 1 := by omega
         rw [e1] at HQ ⊢
         have ib : (i : Int) < 4 := by omega
         go_wp2_with fail
         refine (HPut.out _ _ ⟨k, rg ⟨#[]⟩ 0 (i + 1)⟩ _ (i : Int) 0 ⟨#[]⟩ HQ.out (wfn (by omega)) (by unfold Vq.putS; dsimp only; rw [rg_len, if_pos (by omega), rg_push _ (Nat.zero_le _)]) (by unfold Vq.putE; dsimp only; rw [rg_len, if_pos (by omega)])).mono ?_
         rintro e w3 ⟨rfl, hq⟩
         have HQ2 : Hid (Qs At W w3 p ⟨k, rg ⟨#[]⟩ 0 (min (i + 1) k)⟩ []) := by rw [e2]; exact hq
         clear hq HQ e1
         go_wp2_with fail
         go_roundw
         case rel => exact ⟨i + 1, by omega, rfl, by rw [e2]; rfl, HQ2⟩
         case measure => simp only [intOf]; omega
       · have e1 : min i k = k := by omega
         have e2 : min (i + 1) k = k := by omega
         rw [e1] at HQ ⊢
         go_wp2_with fail
         refine (HPut.out _ _ ⟨k, rg ⟨#[]⟩ 0 k⟩ _ (i : Int) 170 ⟨#[]⟩ HQ.out (wfn (by omega)) (by unfold Vq.putS; dsimp only; rw [rg_len, if_neg (by omega)]) (by unfold Vq.putE; dsimp only; rw [rg_len, if_neg (by omega)])).mono ?_
         rintro e w3 ⟨rfl, hq⟩
         have HQ2 : Hid (Qs At W w3 p ⟨k, rg ⟨#[]⟩ 0 (min (i + 1) k)⟩ []) := by rw [e2]; exact hq
         clear hq HQ e1
         go_wp2_with fail
         go_roundw
         case rel => exact ⟨i + 1, by omega, rfl, by rw [e2], HQ2⟩
         case measure => simp only [intOf]; omega
     · have ii : ¬ ((i : Int) < 10) := by omega
       have e1 : min i k = k := by omega
       rw [e1] at HQ ⊢
       clear e1
       go_wp2_with fail
       have HC := HQ.out.all0 S (by dsimp only; rw [rg_len]; omega)
       dsimp only at HC
       rw [rg_len, Nat.sub_zero] at HC
       refine HC.mono ?_
       rintro e w3 ⟨g, o, c, rfl, hlc, hc, hf, hs⟩
       have HQ3 : Hid (Qs At W (w3.setCell ⟨g, o, none⟩ (.int .i64 77)) p ⟨k, rg ⟨#[]⟩ 0 k⟩ []) := hs _
       have kp : (0 : Int) < (k : Int) := by omega
       have kp2 : 0 < k := k1
       clear HC HQ hs
       go_upto_region 13 with fail
       generalize w3.setCell ⟨g, o, none⟩ (.int .i64 77) = v3 at HQ3 ⊢
       clear hc hf
       go_wp2_with fail
       refine (HHead.out _ _ _ ⟨0, ⟨#[]⟩⟩ true HQ3.out (by unfold Vq.hd; dsimp only; rw [rg_cons _ k1]; rfl) (decide_eq_true (by dsimp only; rw [rg_len]; omega))).mono ?_
       rintro e w4 ⟨rfl, hq⟩
       have HQ4 : Hid (Qs At W (w4.alloc (.cells #[.int .i64 0, .string ⟨#[]⟩] 35)) p ⟨k, rg ⟨#[]⟩ 0 k⟩ ((w4.heap.size, (.cells #[.int .i64 0, .string ⟨#[]⟩] 35)) :: [])) := HAl.out _ _ _ _ hq
       clear hq HQ3
       dsimp only
       go_upto_region 14 with fail
       generalize w4.alloc (.cells #[.int .i64 0, .string ⟨#[]⟩] 35) = v4 at HQ4 ⊢
       generalize w4.heap.size = g8 at HQ4 ⊢
       have a0 := row_cells (k := 0) (HQ4.out.row (g := g8) (o := (.cells #[.int .i64 0, .string ⟨#[]⟩] 35)) (by simp)) rfl
       go_wp2_with fail
       refine (HLen.out _ _ _ (k : Int) HQ4.out (by dsimp only; rw [rg_len]; omega)).mono ?_
       rintro e w5 ⟨rfl, hq⟩
       have HBf : Hid (Below W.heap.size W w5) := hq.bel
       clear hq HQ4 a0
       go_wp2
       go_ret
       exact ⟨rfl, HBf.out⟩
end Go.Proofs.Ytfffpaoimhmedaa.queueRooms
