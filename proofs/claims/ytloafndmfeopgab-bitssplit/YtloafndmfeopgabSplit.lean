/- BitsSplit: the bits of every number, cut anywhere, are its higher and its lower ones; no condition. -/
import Derived.Test.YtloafndmfeopgabRows
import Derived.Test.YtloafndmfeopgabSplitA
import Derived.Test.YtloafndmfeopgabLc
import Derived.Test.YtloafndmfeopgabBm5
import Derived.WalkKit
import Derived.Deep.RegionWith
import Derived.ProofKit
import Derived.OpenShut
import Derived.ShutString
namespace Go.Proofs.Ytloafndmfeopgab.bitsSplit
open Go.ChangeShapes Go.WideShapes Go.ChangeAt Go.RowKit
open Go.ChangeMaps (open_string shut_string)
set_option linter.unusedVariables false

theorem num_high0 (n k : Nat) (hn : n < 18446744073709551616) (hk : k ≤ 64) (hk2 : 64 ≤ k) (w : World) :
    Calls Try.prog 7 #[.string ⟨(Bm.row (Bm.ofB (n / 2 ^ k) 0)).toArray⟩] w fun e w' => e = .returned (.int .u64 ((n : Int) / 2 ^ k)) ∧ w' = w := by
  have h := num_high n k hn hk w
  rw [show 64 - k = 0 by omega] at h
  exact h
set_option maxRecDepth 100000 in
set_option maxHeartbeats 1000000 in
theorem top (n k : Nat) (hn : n < 18446744073709551616) (hk : k ≤ 64) (hk2 : 64 ≤ k) (c : Nat) (hc : c < 256) (hck : c % 65 = k) (w : World) :
    Calls Try.prog 3 #[.int .u64 n, .int .u8 c] w fun e w' => e = .returned (.bool true) ∧ Below w.heap.size w w' := by
  have hx : (c : Int) % 65 = (k : Int) := by omega
  clear hck
  have hk00 : ((k : Int) == 0) = false := by simp; omega
  have hsh := shift_two n k (by omega)
  go_enter Try.func3, Try.ntmps3
  go_wp2_with fail
  refine (known_any _).mono ?_; rintro e w1 ⟨rfl, hb1⟩
  go_wp2_with fail
  refine (of_nat n 64 (by omega) _ (by omega) _).mono ?_; rintro e w2 ⟨rfl, hb2⟩
  go_wp2_with fail
  clear hx hc
  have hs1 : ∀ W : World, (Instr.slice 9 (.string ⟨(Bm.row (Bm.ofB n 64)).toArray⟩) (some (.int .i64 (64 - (k : Int)))) none none).run Try.prog W = .ok (.string ⟨(Bm.row (Bm.ofB n k)).toArray⟩) W :=
    fun W => slice_low n k (by omega) _ rfl W
  have hs2 : ∀ W : World, (Instr.slice 9 (.string ⟨(Bm.row (Bm.ofB n 64)).toArray⟩) none (some (.int .i64 (64 - (k : Int)))) none).run Try.prog W = .ok (.string ⟨(Bm.row (Bm.ofB (n / 2 ^ k) (64 - k))).toArray⟩) W :=
    fun W => slice_high n k (by omega) _ rfl W
  refine Lw.wp_region_quiet_below (by kernel_rfl) (by kernel_rfl) ?_
  repeat (first
    | go_big_quiet_skip
    | (go_big_quiet_want; go_big_quiet_op; go_big_quiet_on)
    | (go_big_quiet_want; go_big_quiet_op; apply Exists.intro; refine ⟨fun _ hb' => ?_, ?_⟩; (first
      | (go_at_call_of 6 (Value.int IntKind.i64 99); exact Lw.calls_below hb' (of_99 n _))
      | (go_at_call_of 6 (Value.int IntKind.i64 (k : Int)); exact Lw.calls_below hb' (of_nat n k (by omega) _ rfl _))
      | (go_at_call 6; exact Lw.calls_below hb' (of_m3 n _))
      | (go_at_call_of 7 (Value.string ⟨(Bm.row (Bm.ofB n k)).toArray⟩); exact Lw.calls_same hb' (num_full n k hn hk hk2 _))
      | (go_at_call 7; exact Lw.calls_same hb' (num_high0 n k hn hk hk2 _))
      | exact Lw.val_rfl _); go_big_quiet_on))
  refine wpQuiet_nil ?_
  intro w3 hb3
  go_wp2
  go_ret
  exact ⟨rfl, below_join (below_join hb1 hb2) hb3⟩

theorem walk (a0 : Int) (w0 : (Lit.int .u64 a0).wf = true) (a1 : Int) (w1 : (Lit.int .u8 a1).wf = true) (w : World) :
    Calls Try.prog 3 #[.int .u64 a0, .int .u8 a1] w fun e w' => e = .returned (.bool true) ∧ Below w.heap.size w w' := by
  obtain ⟨n, rfl, hn⟩ := u64_nat w0
  obtain ⟨c, rfl, hc⟩ := u8_nat w1
  by_cases h1 : c % 65 ≤ 0
  · exact bot n _ hn h1 c hc rfl w
  · by_cases h2 : c % 65 < 64
    · exact mid n _ hn (by omega) h2 c hc rfl w
    · exact top n _ hn (by omega) (by omega) c hc rfl w
theorem own : ownKnob Try.prog.godebug = none := by kernel_rfl
set_option maxRecDepth 100000 in
theorem lifted (os : Os) (started : os.Started) (H : Type) (enc : TypeId × Value → H) :
    ReturnsInHanded {} Try.checked os 3 .any (Rows.bitsSplitSpec.pre6 enc Try.prog Try.f3 Rows.bitsSplitRow.domain false) (Rows.bitsSplitSpec.post enc Try.prog Try.f3 false true false false) := by
  refine returnsInHanded_of_change (C := Try.checked) own started (by kernel_rfl) Try.func3
    (ChangeSpec.witness6 (enc := enc) (C := Try.checked) false ⟨#[], #[.int .u64 0, .int .u8 0], []⟩ 8 (by kernel_rfl) (by kernel_rfl) (by kernel_rfl) (by kernel_rfl)) ?_
  intro W base args ds gs before hval0 hW hcnd _
  have hval : ∀ (j : Nat) t v, Try.f3.params[j]? = some t → args[j]? = some v → Value.okWide Try.prog W .any base t v := hval0
  have hW' := hW
  obtain ⟨p, q, hA0, hV, rfl, hfz, hnd⟩ := hW
  have hA : DataW.TrodAll enc Try.prog W 0 (fun _ => true) true Try.f3.params.toList args.toList ds p := hA0
  rw [Try.params3] at hA hval
  obtain ⟨v0, vs0, d0, ds0, p0, q0, hargs, rfl, rfl, h0, r0⟩ := trodAll_cons hA
  obtain ⟨v1, vs1, d1, ds1, p1, q1, rfl, rfl, rfl, h1, r1⟩ := trodAll_cons r0
  obtain ⟨rfl, rfl, rfl⟩ := trodAll_nil r1
  obtain rfl : args = #[v0, v1] := by cases args; simp_all
  obtain ⟨rfl, rfl⟩ := trodVars_none hV
  obtain ⟨a0, rfl, rfl, rfl, w0⟩ := open_int Try.underlying22 (hval 0 22 v0 rfl rfl) h0
  obtain ⟨a1, rfl, rfl, rfl, w1⟩ := open_int Try.underlying5 (hval 1 5 v1 rfl rfl) h1
  clear hA0 hval0
  refine (walk a0 w0 a1 w1 W).mono fun e W' ⟨he, bel⟩ => ?_
  subst he
  exact ⟨_, rfl, _, _, _, [], _, [], hW', trodAll_mk1 (shut_bool Try.underlying4 _), (trodAll_cons_mk (shut_int Try.underlying22 w0) (trodAll_cons_mk (shut_int Try.underlying5 w1) trodAll_mk0)), rfl, bel.frame _, fun h => by cases h⟩
theorem over : Rows.bitsSplitRow.holds Try.pinned (OpenSpec.ofChange Rows.bitsSplitSpec) :=
  OpenClaim.holds_of_wide 3 Try.f3 rfl rfl rfl rfl rfl rfl rfl ⟨rfl, rfl, rfl, rfl, rfl⟩ rfl rfl rfl rfl rfl (by kernel_rfl) Try.func3 (by kernel_rfl)
    (of_decide_eq_true (by kernel_rfl)) (by unfold Func.isWrapper; first | (rw [if_pos (by decide +kernel)]; kernel_rfl) | (rw [if_neg (by decide +kernel)]; exact ⟨rfl, rfl⟩))
    (fun os started H enc _ => lifted os started H enc)
end Go.Proofs.Ytloafndmfeopgab.bitsSplit
namespace Go.Proofs.Ytloafndmfeopgab
/-- The statement. -/
theorem bitsSplit_holds : Rows.BitsSplitSaid := bitsSplit.over
#print axioms bitsSplit_holds
end Go.Proofs.Ytloafndmfeopgab
