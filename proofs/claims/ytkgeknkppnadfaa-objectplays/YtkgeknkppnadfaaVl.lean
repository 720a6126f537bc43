/- The lock of package sync in this program; code that communicates in a function that defers. -/
import Derived.Test.YtkgeknkppnadfaaVn
import Derived.Test.YtkgeknkppnadfaaOb
import Derived.Test.YtkgeknkppnadfaaRg
import Derived.Defers
import Derived.Conc.MuLone
namespace Go.Proofs.Ytkgeknkppnadfaa
open Go.RowKit Go.Conc
set_option linter.unusedVariables false
/-- A function's end where it defers. -/
theorem Vn.callsD {P : Program} {f : FuncId} {fn : Func} {c : Code} {args : Array Value} {w : World} {R : Ending → World → Prop} (hf : P.funcs[f]? = some fn) (hb : fn.body = some c)
    (h : Vn.NWp P c (bodyPostD P fn R) { tmps := args ++ Array.replicate (fn.ntmps - args.size) undef, defers := [] } w) : Calls P f args w R := by
  intro cs
  let b : Frame := { (default : Frame) with fn := f, kind := .normal }
  have henter : Frame.enter P f args .normal = b.at { tmps := args ++ Array.replicate (fn.ntmps - args.size) undef, defers := [] } [.code c] := by
    simp [Frame.enter, Frame.at, hf, hb, b]
  have hk : b.kind ≠ .early := by simp [b]
  obtain ⟨e, a', w', hq, harr⟩ := h b [] cs hk
  rw [← henter] at harr
  cases e with
  | normal =>
    obtain ⟨e', w'', fr', hR, hs, hfn, hl⟩ := leaves_steps a'.defers .returning w' { b.at a' [] with mode := .returning } cs rfl rfl rfl hf rfl hq
    exact ⟨e', w'', fr', hR, Comes.of_steps (Steps.trans harr (.one step_end)) hs, hfn, hl⟩
  | ret =>
    obtain ⟨todo, hs₀⟩ := harr
    obtain ⟨e', w'', fr', hR, hs, hfn, hl⟩ := leaves_steps a'.defers .returning w' { b.at a' todo with mode := .returning } cs rfl rfl rfl hf rfl hq
    exact ⟨e', w'', fr', hR, Comes.of_steps hs₀ hs, hfn, hl⟩
  | panic chain =>
    obtain ⟨todo, hs₀⟩ := harr
    obtain ⟨e', w'', fr', hR, hs, hfn, hl⟩ := leaves_steps a'.defers (.panicking chain) w' { b.at a' todo with mode := .panicking chain } cs rfl rfl rfl hf rfl hq
    exact ⟨e', w'', fr', hR, Comes.of_steps hs₀ hs, hfn, hl⟩
  | exit id => exact hq.elim
  | goto l => exact hq.elim
  | outgrown => exact ⟨.outgrown, w', b, hq, harr.resolve_left (by simp [b]), rfl, trivial⟩
abbrev muL : Go.Conc.Locks.MuLink := { lock := 46, unlock := 47, ilock := 48, iunlock := 49, lockSlow := 54, unlockSlow := 57, disable := 50, enable := 52, acquire := 53, relMerge := 55, cas32 := 51, add32 := 56, tMutex := 95, tIMutex := 93, tPMutex := 101, tPIMutex := 102, tPI32 := 104, tUP := 106, tNoCopy := 91, tU32 := 25 }
theorem muLib : Go.Conc.Locks.MuLib Try.prog muL :=
  ⟨Try.func46, Try.func47, Try.func48, Try.func49, Try.func50, Try.func52, Try.func53, Try.func55, Try.func51, Try.func56,
   Try.underlying93, Try.runUnderlying93, Try.sizeOf93, Try.isAgg93, Try.zeroValue93,
   Try.underlying95, Try.runUnderlying95, Try.sizeOf95, Try.isAgg95, Try.zeroValue95,
   Try.underlying101, Try.runUnderlying101, Try.sizeOf101, Try.isAgg101, Try.zeroValue101,
   Try.underlying102, Try.runUnderlying102, Try.sizeOf102, Try.isAgg102, Try.zeroValue102,
   Try.underlying104, Try.runUnderlying104, Try.sizeOf104, Try.isAgg104, Try.zeroValue104,
   Try.underlying106, Try.runUnderlying106, Try.sizeOf106, Try.isAgg106, Try.zeroValue106,
   Try.underlying91, Try.runUnderlying91, Try.sizeOf91, Try.isAgg91, Try.zeroValue91,
   Try.underlying21, Try.runUnderlying21, Try.sizeOf21, Try.isAgg21, Try.zeroValue21, (by kernel_rfl)⟩
theorem lk_lock {w : World} {p : Nat} {T : TypeId} {cs : Array Value} (h : RowT T w p cs) (h0 : cs[0]? = some (.int .i32 0)) : Calls Try.prog 46 #[Ob.ptr p] w fun e w' => e = .returned (.tuple #[]) ∧ w' = w.setCell ⟨p, 0, none⟩ (.int .i32 1) :=
  Go.MuLone.lock_free muLib ⟨p, 0, none⟩ w (h.c 0 _ h0) (h.f 0)
theorem lk_unlock {w : World} {p : Nat} {T : TypeId} {cs : Array Value} (u : FrameMode) (h : RowT T w p cs) (h0 : cs[0]? = some (.int .i32 1)) : CallsD Try.prog 47 #[Ob.ptr p] u w fun e u' w' => u' = u ∧ (e = .returned (.tuple #[]) ∧ w' = w.setCell ⟨p, 0, none⟩ (.int .i32 0)) :=
  Go.MuLone.unlock_deferred muLib ⟨p, 0, none⟩ u w (h.c 0 _ h0) (h.f 0)
end Go.Proofs.Ytkgeknkppnadfaa
