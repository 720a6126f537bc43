/- The lock of package sync in this program; code that communicates in a function that defers. -/
import Derived.Test.YtfffpaoimhmedaaVn
import Derived.Test.YtfffpaoimhmedaaOb
import Derived.Test.YtfffpaoimhmedaaRg
import Derived.Defers
import Derived.Conc.MuLone
namespace Go.Proofs.Ytfffpaoimhmedaa
open Go.RowKit Go.Conc
set_option linter.unusedVariables false
/-- A function's end where it defers. -/
theorem Vn.callsD {P : Program} {f : FuncId} {fn : Func} {c : Code} {args : Array Value} {w : World} {R : Ending → World → Prop} (hf : P.funcs[f]? = some fn) (hb : fn.body = some c)
    (h : Vn.NWp P c (bodyPostD P fn R) { tmps := args ++ Array.replicate (fn.ntmps - args.size) undef, defers := [] } w) : Calls P f args w R := by
  intro cs
  let b : Frame := { (default : Frame) with fn := f, kind := .normal }
  have henter : Frame.enter P f args .normal = b.at { tmps := args ++ Array.replicate (fn.ntmps - args.size) undef, defers := [] } [.code c] := by
    simp [Frame.enter, Frame.at, hf, hb, b]
  have hk : b.kind ≠ .early := by simp [b]
  obtain ⟨e, a', w', hq, harr⟩ := h b [] cs hk
  rw [← henter] at harr
  cases e with
  | normal =>
    obtain ⟨e', w'', fr', hR, hs, hfn, hl⟩ := leaves_steps a'.defers .returning w' { b.at a' [] with mode := .returning } cs rfl rfl rfl hf rfl hq
    exact ⟨e', w'', fr', hR, Comes.of_steps (Steps.trans harr (.one step_end)) hs, hfn, hl⟩
  | ret =>
    obtain ⟨todo, hs₀⟩ := harr
    obtain ⟨e', w'', fr', hR, hs, hfn, hl⟩ := leaves_steps a'.defers .returning w' { b.at a' todo with mode := .returning } cs rfl rfl rfl hf rfl hq
    exact ⟨e', w'', fr', hR, Comes.of_steps hs₀ hs, hfn, hl⟩
  | panic chain =>
    obtain ⟨todo, hs₀⟩ := harr
    obtain ⟨e', w'', fr', hR, hs, hfn, hl⟩ := leaves_steps a'.defers (.panicking chain) w' { b.at a' todo with mode := .panicking chain } cs rfl rfl rfl hf rfl hq
    exact ⟨e', w'', fr', hR, Comes.of_steps hs₀ hs, hfn, hl⟩
  | exit id => exact hq.elim
  | goto l => exact hq.elim
  | outgrown => exact ⟨.outgrown, w', b, hq, harr.resolve_left (by simp [b]), rfl, trivial⟩
abbrev muL : Go.Conc.Locks.MuLink := { lock := 21, unlock := 22, ilock := 23, iunlock := 24, lockSlow := 29, unlockSlow := 32, disable := 25, enable := 27, acquire := 28, relMerge := 30, cas32 := 26, add32 := 31, tMutex := 60, tIMutex := 58, tPMutex := 64, tPIMutex := 65, tPI32 := 67, tUP := 69, tNoCopy := 55, tU32 := 56 }
theorem muLib : Go.Conc.Locks.MuLib Try.prog muL :=
  ⟨Try.func21, Try.func22, Try.func23, Try.func24, Try.func25, Try.func27, Try.func28, Try.func30, Try.func26, Try.func31,
   Try.underlying58, Try.runUnderlying58, Try.sizeOf58, Try.isAgg58, Try.zeroValue58,
   Try.underlying60, Try.runUnderlying60, Try.sizeOf60, Try.isAgg60, Try.zeroValue60,
   Try.underlying64, Try.runUnderlying64, Try.sizeOf64, Try.isAgg64, Try.zeroValue64,
   Try.underlying65, Try.runUnderlying65, Try.sizeOf65, Try.isAgg65, Try.zeroValue65,
   Try.underlying67, Try.runUnderlying67, Try.sizeOf67, Try.isAgg67, Try.zeroValue67,
   Try.underlying69, Try.runUnderlying69, Try.sizeOf69, Try.isAgg69, Try.zeroValue69,
   Try.underlying55, Try.runUnderlying55, Try.sizeOf55, Try.isAgg55, Try.zeroValue55,
   Try.underlying21, Try.runUnderlying21, Try.sizeOf21, Try.isAgg21, Try.zeroValue21, (by kernel_rfl)⟩
theorem lk_lock {w : World} {p : Nat} {T : TypeId} {cs : Array Value} (h : RowT T w p cs) (h0 : cs[0]? = some (.int .i32 0)) : Calls Try.prog 21 #[Ob.ptr p] w fun e w' => e = .returned (.tuple #[]) ∧ w' = w.setCell ⟨p, 0, none⟩ (.int .i32 1) :=
  Go.MuLone.lock_free muLib ⟨p, 0, none⟩ w (h.c 0 _ h0) (h.f 0)
theorem lk_unlock {w : World} {p : Nat} {T : TypeId} {cs : Array Value} (u : FrameMode) (h : RowT T w p cs) (h0 : cs[0]? = some (.int .i32 1)) : CallsD Try.prog 22 #[Ob.ptr p] u w fun e u' w' => u' = u ∧ (e = .returned (.tuple #[]) ∧ w' = w.setCell ⟨p, 0, none⟩ (.int .i32 0)) :=
  Go.MuLone.unlock_deferred muLib ⟨p, 0, none⟩ u w (h.c 0 _ h0) (h.f 0)
end Go.Proofs.Ytfffpaoimhmedaa
