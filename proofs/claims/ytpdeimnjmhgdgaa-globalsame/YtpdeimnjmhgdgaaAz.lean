/- Package global, over the landed code: two beats, whose they are, how many there were. -/
import Derived.Test.YtpdeimnjmhgdgaaA1
import Derived.Test.YtpdeimnjmhgdgaaRg
import Derived.Test.YtpdeimnjmhgdgaaU2
import Derived.OpenShut
import Derived.Deep.RegionHeld3
import Derived.Deep.CutBlock
import Derived.Lib.SliceRun
namespace Go.Proofs.Ytpdeimnjmhgdgaa
open Go.RowKit Go.WideShapes
set_option linter.unusedVariables false
namespace Ek
def c6 (g m og om who n : Int) : Array Value := #[.int .u16 g, .int .u16 m, .int .u16 og, .int .u16 om, .int .i64 who, .int .i64 n]
def gl : Gq.St → Nat | .no => 0 | .one b => b.g | .more b _ _ _ => b.g
def mk : Gq.St → Nat | .no => 0 | .one b => b.m | .more b _ _ _ => b.m
def og : Gq.St → Nat | .more _ x _ _ => x | _ => 0
def om : Gq.St → Nat | .more _ _ x _ => x | _ => 0
def wh : Gq.St → Int | .no => 0 | .one b => b.who | .more b _ _ _ => b.who
def cs (s : Gq.St) : Array Value := c6 (gl s) (mk s) (og s) (om s) (wh s) (Gq.steady s)
theorem gl_lt {s : Gq.St} (h : Gq.Ok s) : gl s < 65536 ∧ mk s < 65536 ∧ og s < 65536 ∧ om s < 65536 := by
  cases s with
  | no => exact ⟨by decide, by decide, by decide, by decide⟩
  | one b => exact ⟨h.1, h.2, (by decide : 0 < 65536), (by decide : 0 < 65536)⟩
  | more b x y n => exact ⟨h.1.1, h.1.2, h.2.1, h.2.2.1⟩
theorem front {T : TypeId} {w : World} {p : Nat} {g m og om who n : Int} (h : RowT T w p (c6 g m og om who n)) : ∀ j v, [Value.int .u16 g, Value.int .u16 m][j]? = some v → w.cell? ((⟨p, 0, none⟩ : Addr).add j) = some v := by
  intro j v hv
  have hadd : (⟨p, 0, none⟩ : Addr).add j = ⟨p, j, none⟩ := by unfold Addr.add; split <;> simp_all
  rw [hadd]
  refine h.c j v ?_
  match j, hv with
  | 0, hv => exact hv
  | 1, hv => exact hv
theorem rows2 (T : TypeId) (w : World) (x y : Array Value) : RowT T ((w.alloc (.cells x T)).alloc (.cells y T)).drew w.heap.size x ∧ RowT T ((w.alloc (.cells x T)).alloc (.cells y T)).drew (w.heap.size + 1) y ∧ Below w.heap.size w ((w.alloc (.cells x T)).alloc (.cells y T)).drew := by
  have e : (w.alloc (.cells x T)).heap.size = w.heap.size + 1 := by simp
  refine ⟨?_, ?_, (((Below.refl _ _).alloc (Nat.le_refl _) _).alloc (by omega) _).drew⟩
  · show ((w.alloc (.cells x T)).alloc (.cells y T)).heap[w.heap.size]? = _
    rw [Below.heap_alloc _ _ _ (by omega)]
    exact heap_alloc_new _ _
  · show ((w.alloc (.cells x T)).alloc (.cells y T)).heap[w.heap.size + 1]? = _
    rw [← e]
    exact heap_alloc_new _ _
theorem beat_new (s : Gq.St) (who : Int) (g m : Nat) (disc : Bool) (h : (disc || who != wh s) = true) : cs (Gq.beat s who g m disc) = c6 g m 0 0 who 1 := by
  cases s with
  | no => rfl
  | one b =>
    have : ¬ (b.who = who ∧ disc = false) := by
      rintro ⟨rfl, rfl⟩
      simp [wh] at h
    show cs (if b.who = who ∧ disc = false then _ else _) = _
    rw [if_neg this]; rfl
  | more b x y n =>
    have : ¬ (b.who = who ∧ disc = false) := by
      rintro ⟨rfl, rfl⟩
      simp [wh] at h
    show cs (if b.who = who ∧ disc = false then _ else _) = _
    rw [if_neg this]; rfl
theorem beat_on (s : Gq.St) (who : Int) (g m : Nat) (disc : Bool) (h : (disc || who != wh s) = false) : cs (Gq.beat s who g m disc) = c6 g m (gl s) (mk s) who (min (Gq.steady s + 1) 1000 : Nat) := by
  cases s with
  | no => rfl
  | one b =>
    have : b.who = who ∧ disc = false := by
      simp [wh] at h
      exact ⟨h.2.symm, h.1⟩
    show cs (if b.who = who ∧ disc = false then _ else _) = _
    rw [if_pos this]; rfl
  | more b x y n =>
    have : b.who = who ∧ disc = false := by
      simp [wh] at h
      exact ⟨h.2.symm, h.1⟩
    show cs (if b.who = who ∧ disc = false then _ else _) = _
    rw [if_pos this, Nat.min_comm]; rfl
end Ek
def GlobalAt : Ob.A Gq.St := OneB 50 Ek.cs Gq.Ok
theorem globalI : Ob.Is GlobalAt := OneB.is _ _ _
theorem ginfo11 : (Try.prog.info? 50).map (·.size) = some 6 := by kernel_rfl
theorem binfo11 : (Try.prog.info? 47).map (·.size) = some 2 := by kernel_rfl
/-- copy(x, y) of elements of k cells, into a block at whatever place. -/
theorem run_copyAt {P : Program} (w : World) (dT sT ty elem : TypeId) (k : Nat) (g o dLen dCap : Nat) (sp : Option Addr) (sLen sCap n : Nat) (cur : Array Value) (t : TypeId) (cs : List Value)
    (hu : P.underlying dT = some (.slice elem)) (hs : (P.info? elem).map (·.size) = some k) (hg : w.heap[g]? = some (.cells cur t (0, 0))) (hn : Nat.min sLen dLen = n) (hl : cs.length = n * k)
    (hsrc : ∃ ad, sp = some ad ∧ ∀ j v, cs[j]? = some v → w.cell? (ad.add j) = some v) (hfit : o + cs.length ≤ cur.size) (h1 : ∀ v ∈ cs, v.oneCell' = true) :
    (Builtin.copy_ #[dT, sT] ty #[.slice (some ⟨g, o, none⟩) dLen dCap, .slice sp sLen sCap]).run P w = .ok (goInt n) (w.setRow g (cur.toList.take o ++ cs ++ cur.toList.drop (o + cs.length)).toArray) := by
  have hf : (Builtin.firstCells k n (.slice sp sLen sCap)).run P w = .ok cs.toArray w := by
    obtain ⟨ad, rfl, hc⟩ := hsrc
    exact run_firstCells_some w k n ad sLen sCap cs hl hc
  have hst := run_storeCells_at P g o t cs 0 cur w hg (by simpa using hfit) h1
  simp only [Nat.add_zero] at hst
  cases hq : P.info? elem with
  | none => simp [hq] at hs
  | some i =>
    have hi : i.size = k := by simpa [hq] using hs
    simp [Builtin.copy_, run_underlying hu, Builtin.lenOf, sizeOf, typeInfo, hq, hi, hn, hf, hst]
theorem Kept.setRow {p : Nat} {w w' : World} {cs : Array Value} (h : Kept (fun j => j = p) w w') : Kept (fun j => j = p) w (w'.setRow p cs) :=
  h.trans (G := fun j => j = p) ⟨rfl, rfl, rfl, by simp [World.setRow], fun k _ hk => setRow_other w' p k _ (fun e => hk (by omega))⟩ (fun g hg => Or.inl hg)
/-- copy(x, y) of elements of k cells, into a block at whatever place, as a step. -/
theorem wpList_copyAt {P : Program} {w : World} {ops : Array Oper} {rest : List Oper} {o : Oper} {a : Act} {Q : Exit → Act → World → Prop} (hgd : o.guard = none) (d s : Operand) (dT sT : TypeId)
    (ho : o.op = .call { callee := .builtin .copy, args := #[d, s], argTypes := #[dT, sT] }) (elem : TypeId) (k : Nat) (hu : P.underlying dT = some (.slice elem)) (hsz : (P.info? elem).map (·.size) = some k)
    (g off : Nat) (sp : Option Addr) (dLen dCap sLen sCap n : Nat) (hd : a.eval d = .slice (some ⟨g, off, none⟩) dLen dCap) (hs : a.eval s = .slice sp sLen sCap) (cur : Array Value) (t : TypeId) (hg : w.heap[g]? = some (.cells cur t (0, 0))) (cs : List Value) (hn : Nat.min sLen dLen = n) (hl : cs.length = n * k)
    (hsrc : ∃ ad, sp = some ad ∧ ∀ j v, cs[j]? = some v → w.cell? (ad.add j) = some v) (hfit : off + cs.length ≤ cur.size) (h1 : ∀ v ∈ cs, v.oneCell' = true) (new : Array Value) (hnew : (cur.toList.take off ++ cs ++ cur.toList.drop (off + cs.length)).toArray = new)
    (h : ∀ w', Hid (RowT t w' g new) → Hid (Kept (fun j => j = g) w w') → wpList P ops Q rest (a.put o.dst (goInt n)) w') :
    wpList P ops Q (o :: rest) a w := by
  refine wpList_plain hgd fun K hK => ?_
  have hrun := run_copyAt (P := P) w dT sT o.type elem k g off dLen dCap sp sLen sCap n cur t cs hu hsz hg hn hl hsrc hfit h1
  unfold Oper.wp
  simp [execOp, ho, resolve, invoke, builtin, hd, hs, hrun, Result.andThen]
  subst hnew
  refine hK _ _ (h _ (show _ = _ from ?_) ?_)
  · simpa using setRow_heap w g _ _ t _ hg
  · show Kept _ _ _; simpa using (Kept.refl (fun j => j = g) w).setRow
set_option maxRecDepth 100000 in
set_option maxHeartbeats 1000000 in
theorem gk_new (w : World) : Ob.Makes Try.prog GlobalAt 9 #[] w Gq.St.no := by
  unfold Ob.Makes
  go_enter Try.func9, Try.ntmps9
  go_wp2
  go_ret
  refine ⟨_, _, rfl, ⟨rfl, ?_, Gq.ok_no⟩, fun g hg => by omega, ?_⟩
  · exact heap_alloc_new _ _
  · exact (Below.refl _ _).alloc (Nat.le_refl _) _
set_option maxRecDepth 100000 in
set_option maxHeartbeats 1000000 in
theorem gk_since (w : World) (a b : Nat) (ha : a < 65536) (hb : b < 65536) : Ob.Looks Try.prog 21 #[.int .u16 (a : Int), .int .u16 (b : Int)] w (.int .i64 (Ck.since a b : Int)) := by
  obtain ⟨D, hD⟩ : ∃ D, Ck.since a b = D := ⟨_, rfl⟩
  have e1 : IntKind.u16.wrap ((b : Int) - (a : Int)) = (D : Int) := by rw [IntKind.wrap_u16, ← hD]; unfold Ck.since; omega
  have e2 : (D : Int) ≤ 65535 := by rw [← hD]; unfold Ck.since; omega
  rw [hD]
  clear hD ha hb
  unfold Ob.Looks
  go_enter Try.func21, Try.ntmps21
  go_wp2
  go_ret
  exact ⟨rfl, Below.refl _ _⟩
set_option maxRecDepth 100000 in
set_option maxHeartbeats 1000000 in
theorem gk_steady (w : World) (p : Nat) (F : Nat → Prop) (s : Gq.St) (h : GlobalAt w p F s) : Ob.Looks Try.prog 20 #[Ob.ptr p] w (.int .i64 (Gq.steady s : Int)) := by
  obtain ⟨rfl, hr, ok⟩ := h
  have c5 : w.cell? ⟨p, 5, none⟩ = some (.int .i64 (Gq.steady s : Int)) := hr.c 5 _ rfl
  generalize Gq.steady s = C at *
  clear hr ok
  unfold Ob.Looks
  go_enter Try.func20, Try.ntmps20
  go_wp2
  go_ret
  exact ⟨rfl, Below.refl _ _⟩
set_option maxRecDepth 100000 in
set_option maxHeartbeats 1000000 in
theorem gk_forget (w : World) (p : Nat) (F : Nat → Prop) (s : Gq.St) (h : GlobalAt w p F s) : Ob.Turns Try.prog GlobalAt 10 #[Ob.ptr p] w p F .no (.tuple #[]) := by
  obtain ⟨rfl, hr, ok⟩ := h
  have HM : Hid (RowT 50 w p (Ek.cs s)) := hr
  have c0 : w.cell? ⟨p, 0, none⟩ = some (.int .u16 (Ek.gl s : Int)) := hr.c 0 _ rfl
  have c1 : w.cell? ⟨p, 1, none⟩ = some (.int .u16 (Ek.mk s : Int)) := hr.c 1 _ rfl
  have c2 : w.cell? ⟨p, 2, none⟩ = some (.int .u16 (Ek.og s : Int)) := hr.c 2 _ rfl
  have c3 : w.cell? ⟨p, 3, none⟩ = some (.int .u16 (Ek.om s : Int)) := hr.c 3 _ rfl
  have c4 : w.cell? ⟨p, 4, none⟩ = some (.int .i64 (Ek.wh s)) := hr.c 4 _ rfl
  have c5 : w.cell? ⟨p, 5, none⟩ = some (.int .i64 (Gq.steady s : Int)) := hr.c 5 _ rfl
  have f0 := hr.f 0
  have f1 := hr.f 1
  have f2 := hr.f 2
  have f3 := hr.f 3
  have f4 := hr.f 4
  have f5 := hr.f 5
  clear hr ok
  generalize Ek.gl s = G at *
  generalize Ek.mk s = M at *
  generalize Ek.og s = OG at *
  generalize Ek.om s = OM at *
  generalize Ek.wh s = WH at *
  generalize Gq.steady s = N at *
  unfold Ob.Turns
  go_enter Try.func10, Try.ntmps10
  go_wp2
  go_end0
  exact ⟨rfl, _, ⟨rfl, (((((HM.out.set 0 _).set 1 _).set 2 _).set 3 _).set 4 _).set 5 _, Gq.ok_no⟩, fun g hg => Or.inl hg, (Kept.refl _ _).sets.sets.sets.sets.sets.sets⟩
set_option maxRecDepth 100000 in
set_option maxHeartbeats 1000000 in
theorem gk_copy (w : World) (p : Nat) (F : Nat → Prop) (s : Gq.St) (h : GlobalAt w p F s) : Ob.Makes Try.prog GlobalAt 13 #[Ob.ptr p] w s := by
  obtain ⟨rfl, hr, ok⟩ := h
  have HO : Hid (Gq.Ok s) := ok
  have HE : Hid (Ek.cs s = Ek.c6 (Ek.gl s) (Ek.mk s) (Ek.og s) (Ek.om s) (Ek.wh s) (Gq.steady s)) := rfl
  have c0 : w.cell? ⟨p, 0, none⟩ = some (.int .u16 (Ek.gl s : Int)) := hr.c 0 _ rfl
  have c1 : w.cell? ⟨p, 1, none⟩ = some (.int .u16 (Ek.mk s : Int)) := hr.c 1 _ rfl
  have c2 : w.cell? ⟨p, 2, none⟩ = some (.int .u16 (Ek.og s : Int)) := hr.c 2 _ rfl
  have c3 : w.cell? ⟨p, 3, none⟩ = some (.int .u16 (Ek.om s : Int)) := hr.c 3 _ rfl
  have c4 : w.cell? ⟨p, 4, none⟩ = some (.int .i64 (Ek.wh s)) := hr.c 4 _ rfl
  have c5 : w.cell? ⟨p, 5, none⟩ = some (.int .i64 (Gq.steady s : Int)) := hr.c 5 _ rfl
  clear hr ok
  unfold Ob.Makes
  generalize Ek.gl s = G at *
  generalize Ek.mk s = M at *
  generalize Ek.og s = OG at *
  generalize Ek.om s = OM at *
  generalize Ek.wh s = WH at *
  generalize Gq.steady s = N at *
  go_enter Try.func13, Try.ntmps13
  go_wp2
  go_ret
  refine ⟨_, _, rfl, ⟨rfl, ?_, HO.out⟩, fun g hg => by omega, ?_⟩
  · show RowT _ _ _ (Ek.cs s); rw [HE.out]; exact heap_alloc_new _ _
  · exact (Below.refl _ _).alloc (Nat.le_refl _) _
set_option maxRecDepth 100000 in
set_option maxHeartbeats 2000000 in
theorem gk_lens (w : World) (p : Nat) (F : Nat → Prop) (s : Gq.St) (h : GlobalAt w p F s) : Ob.Looks Try.prog 14 #[Ob.ptr p] w (.tuple #[.int .i64 (Gq.la s : Int), .int .i64 (Gq.lb s : Int), .bool (Gq.lo s)]) := by
  obtain ⟨rfl, hr, ok⟩ := h
  have hlo := Gq.lo_steady ok
  have hlt := Ek.gl_lt ok
  have c5 : w.cell? ⟨p, 5, none⟩ = some (.int .i64 (Gq.steady s : Int)) := hr.c 5 _ rfl
  unfold Ob.Looks
  by_cases h2 : 2 ≤ Gq.steady s
  · rw [decide_eq_true h2] at hlo
    have HE : Hid (Gq.la s = Ck.since (Ek.og s) (Ek.gl s) ∧ Gq.lb s = Ck.since (Ek.om s) (Ek.mk s)) := by
      cases s with
      | no => cases hlo
      | one b => cases hlo
      | more b x y n => exact ⟨rfl, rfl⟩
    rw [HE.out.1, HE.out.2, hlo]
    have c0 : w.cell? ⟨p, 0, none⟩ = some (.int .u16 (Ek.gl s : Int)) := hr.c 0 _ rfl
    have c1 : w.cell? ⟨p, 1, none⟩ = some (.int .u16 (Ek.mk s : Int)) := hr.c 1 _ rfl
    have c2 : w.cell? ⟨p, 2, none⟩ = some (.int .u16 (Ek.og s : Int)) := hr.c 2 _ rfl
    have c3 : w.cell? ⟨p, 3, none⟩ = some (.int .u16 (Ek.om s : Int)) := hr.c 3 _ rfl
    have HS1 : Hid (∀ w' : World, Ob.Looks Try.prog 21 #[.int .u16 (Ek.og s : Int), .int .u16 (Ek.gl s : Int)] w' (.int .i64 (Ck.since (Ek.og s) (Ek.gl s) : Int))) := fun w' => gk_since w' _ _ hlt.2.2.1 hlt.1
    have HS2 : Hid (∀ w' : World, Ob.Looks Try.prog 21 #[.int .u16 (Ek.om s : Int), .int .u16 (Ek.mk s : Int)] w' (.int .i64 (Ck.since (Ek.om s) (Ek.mk s) : Int))) := fun w' => gk_since w' _ _ hlt.2.2.2 hlt.2.1
    have n2 : ¬ ((Gq.steady s : Int) < 2) := by omega
    have hp : p < w.heap.size := hr.lt
    have d0 : ∀ o, (w.alloc o).cell? ⟨p, 0, none⟩ = some (.int .u16 (Ek.gl s : Int)) := fun o => Lib.cell?_alloc_some o c0
    have d1 : ∀ o, (w.alloc o).cell? ⟨p, 1, none⟩ = some (.int .u16 (Ek.mk s : Int)) := fun o => Lib.cell?_alloc_some o c1
    have d2 : ∀ o, (w.alloc o).cell? ⟨p, 2, none⟩ = some (.int .u16 (Ek.og s : Int)) := fun o => Lib.cell?_alloc_some o c2
    have d3 : ∀ o, (w.alloc o).cell? ⟨p, 3, none⟩ = some (.int .u16 (Ek.om s : Int)) := fun o => Lib.cell?_alloc_some o c3
    have e0 : ∀ o o', ((w.alloc o).alloc o').cell? ⟨p, 0, none⟩ = some (.int .u16 (Ek.gl s : Int)) := fun o o' => Lib.cell?_alloc_some o' (d0 o)
    have e1 : ∀ o o', ((w.alloc o).alloc o').cell? ⟨p, 1, none⟩ = some (.int .u16 (Ek.mk s : Int)) := fun o o' => Lib.cell?_alloc_some o' (d1 o)
    have e2 : ∀ o o', ((w.alloc o).alloc o').cell? ⟨p, 2, none⟩ = some (.int .u16 (Ek.og s : Int)) := fun o o' => Lib.cell?_alloc_some o' (d2 o)
    have e3 : ∀ o o', ((w.alloc o).alloc o').cell? ⟨p, 3, none⟩ = some (.int .u16 (Ek.om s : Int)) := fun o o' => Lib.cell?_alloc_some o' (d3 o)
    clear HE hlo hlt hr ok h2
    generalize Ek.gl s = G at *
    generalize Ek.mk s = M at *
    generalize Ek.og s = OG at *
    generalize Ek.om s = OM at *
    generalize Gq.steady s = N at *
    generalize Ck.since OG G = D1 at *
    generalize Ck.since OM M = D2 at *
    unfold Ob.Looks at HS1 HS2
    go_enter Try.func14, Try.ntmps14
    go_wp2_with fail
    go_cut [5, 6] from 22 (fun v5 v6 wx => ∃ q1 q2, v5 = Ob.ptr q1 ∧ v6 = Ob.ptr q2 ∧ Hid (RowT 47 wx q1 #[.int .u16 (G : Int), .int .u16 (M : Int)]) ∧ Hid (RowT 47 wx q2 #[.int .u16 (OG : Int), .int .u16 (OM : Int)]) ∧ Hid (Below w.heap.size w wx))
    case first =>
      go_region
      all_goals
        go_wp2_with fail
        go_meet
        case rel => first | exact ⟨_, _, rfl, rfl, (Ek.rows2 _ _ _ _).1, (Ek.rows2 _ _ _ _).2.1, (Ek.rows2 _ _ _ _).2.2⟩ | exact ⟨_, _, rfl, rfl, (Ek.rows2 _ _ _ _).2.1, (Ek.rows2 _ _ _ _).1, (Ek.rows2 _ _ _ _).2.2⟩
    case rest =>
      obtain ⟨q1, q2, rfl, rfl, HR1, HR2, HB⟩ := hcut
      have HC : Hid (∀ w', Below wc.heap.size wc w' → w'.cell? ⟨q1, 0, none⟩ = some (.int .u16 (G : Int)) ∧ w'.cell? ⟨q1, 1, none⟩ = some (.int .u16 (M : Int)) ∧ w'.cell? ⟨q2, 0, none⟩ = some (.int .u16 (OG : Int)) ∧ w'.cell? ⟨q2, 1, none⟩ = some (.int .u16 (OM : Int))) := fun w' hb => ⟨(HR1.out.on hb).c 0 _ rfl, (HR1.out.on hb).c 1 _ rfl, (HR2.out.on hb).c 0 _ rfl, (HR2.out.on hb).c 1 _ rfl⟩
      clear c0 c1 c2 c3 c5 d0 d1 d2 d3 e0 e1 e2 e3 HR1 HR2
      go_wp2_with fail
      refine Lw.wp_region_quiet_below (by kernel_rfl) (by kernel_rfl) ?_
      repeat (first
        | go_big_quiet_skip
        | (go_big_quiet_want; go_big_quiet_op; go_big_quiet_on)
        | (go_big_quiet_want; go_big_quiet_op; apply Exists.intro; refine ⟨fun _ hb' => ?_, ?_⟩; (first
          | exact Lw.val_rfl _
          | (go_at_call 21; first | exact Lw.calls_below hb' (HS1.out _) | exact Lw.calls_below hb' (HS2.out _))
          | (simp [go_sem, (HC.out _ hb').1]; rfl)
          | (simp [go_sem, (HC.out _ hb').2.1]; rfl)
          | (simp [go_sem, (HC.out _ hb').2.2.1]; rfl)
          | (simp [go_sem, (HC.out _ hb').2.2.2]; rfl)); go_big_quiet_on))
      refine wpQuiet_nil ?_
      intro w2 hb2
      have HB2 : Hid (Below w.heap.size w w2) := HB.out.trans (hb2.mono HB.out.size)
      clear hb2 HC
      go_wp2
      go_ret3
      exact ⟨rfl, HB2.out⟩
  · have e1 : Gq.la s = 0 ∧ Gq.lb s = 0 := by
      rw [decide_eq_false h2] at hlo
      cases s with
      | no => exact ⟨rfl, rfl⟩
      | one b => exact ⟨rfl, rfl⟩
      | more b x y n => cases hlo
    rw [e1.1, e1.2, hlo, decide_eq_false h2]
    have n2 : (Gq.steady s : Int) < 2 := by omega
    clear e1 hlo hlt hr ok h2
    generalize Gq.steady s = N at *
    go_enter Try.func14, Try.ntmps14
    go_wp2
    go_ret3
    exact ⟨rfl, Below.refl _ _⟩
set_option maxRecDepth 100000 in
set_option maxHeartbeats 1000000 in
theorem gk_tell (w : World) (p : Nat) (F : Nat → Prop) (s : Gq.St) (t : Nat) (ht : t < 65536) (h : GlobalAt w p F s) : Ob.Looks Try.prog 18 #[Ob.ptr p, .int .u16 (t : Int)] w (.int .u16 (Gq.tell s t : Int)) := by
  obtain ⟨rfl, hr, ok⟩ := h
  have hl := Ek.gl_lt ok
  have c0 : w.cell? ⟨p, 0, none⟩ = some (.int .u16 (Ek.gl s : Int)) := hr.c 0 _ rfl
  have c1 : w.cell? ⟨p, 1, none⟩ = some (.int .u16 (Ek.mk s : Int)) := hr.c 1 _ rfl
  have e1 : IntKind.u16.wrap ((t : Int) + IntKind.u16.wrap ((Ek.gl s : Int) - (Ek.mk s : Int))) = (Gq.tell s t : Int) := by
    rw [IntKind.wrap_u16, IntKind.wrap_u16]
    cases s with
    | no => show ((t : Int) + ((0 : Nat) - (0 : Nat) : Int) % 65536) % 65536 = (t : Int); omega
    | one b => show ((t : Int) + ((b.g : Int) - b.m) % 65536) % 65536 = (((t + (b.g + 65536 - b.m)) % 65536 : Nat) : Int); have := ok.1; have := ok.2; omega
    | more b x y n => show ((t : Int) + ((b.g : Int) - b.m) % 65536) % 65536 = (((t + (b.g + 65536 - b.m)) % 65536 : Nat) : Int); have := ok.1.1; have := ok.1.2; omega
  generalize Ek.gl s = G at *
  generalize Ek.mk s = M at *
  generalize Gq.tell s t = R at *
  clear hr ok hl ht
  unfold Ob.Looks
  go_enter Try.func18, Try.ntmps18
  go_wp2
  go_ret
  exact ⟨rfl, (Below.refl _ _).alloc (Nat.le_refl _) _⟩
set_option maxRecDepth 100000 in
set_option maxHeartbeats 2000000 in
theorem gk_rate (w : World) (p : Nat) (F : Nat → Prop) (s : Gq.St) (num : Int) (h : GlobalAt w p F s) : Ob.Looks Try.prog 16 #[Ob.ptr p, .int .i64 num] w (.tuple #[.int .i64 (Gq.rate s num), .bool (Gq.can s num)]) := by
  have HL : Hid (Calls Try.prog 14 #[Ob.ptr p] w fun e w' => e = .returned (.tuple #[.int .i64 (Gq.la s : Int), .int .i64 (Gq.lb s : Int), .bool (Gq.lo s)]) ∧ Below w.heap.size w w') := gk_lens w p F s h
  have hlo : Gq.lo s = false → Gq.la s = 0 := fun e => by
    cases s with
    | no => rfl
    | one b => rfl
    | more b x y z => cases e
  have l1 := Gq.la_lt s
  have l2 := Gq.lb_lt s
  unfold Gq.rate Gq.can
  generalize Gq.la s = A at *
  generalize Gq.lb s = B at *
  generalize Gq.lo s = o at *
  clear h
  unfold Ob.Looks
  by_cases hc : A ≠ 0 ∧ B ≠ 0 ∧ 1 ≤ num ∧ num ≤ 1000000
  · rw [decide_eq_true hc, if_pos rfl]
    obtain ⟨h1, h2, h3, h4⟩ := hc
    have ho : o = true := by cases o with | true => rfl | false => exact absurd (hlo rfl) h1
    subst ho
    obtain ⟨M, rfl⟩ := Int.eq_ofNat_of_zero_le (show 0 ≤ num by omega)
    obtain ⟨T, hT⟩ : ∃ T, M * B = T := ⟨_, rfl⟩
    have t0 : (M : Int) * (B : Int) = (T : Int) := by rw [← hT]; simp
    have t1 : T ≤ 65536000000 := by rw [← hT]; exact Nat.le_trans (Nat.mul_le_mul (by omega : M ≤ 1000000) (by omega : B ≤ 65536)) (by decide)
    obtain ⟨Q, hQ⟩ : ∃ Q, T / A = Q := ⟨_, rfl⟩
    have q0 : (T : Int).tdiv (A : Int) = (Q : Int) := by rw [Int.tdiv_eq_ediv_of_nonneg (by omega), ← hQ]; simp
    have q1 : Q ≤ 65536000000 := by rw [← hQ]; exact Nat.le_trans (Nat.div_le_self _ _) t1
    rw [t0, q0]
    have a0 : ((A : Int) == 0) = false := beq_eq_false_iff_ne.2 (by omega)
    have a1 : (A : Int) ≠ 0 := by omega
    have b0 : ((B : Int) == 0) = false := beq_eq_false_iff_ne.2 (by omega)
    have m1 : ¬ ((M : Int) < 1) := by omega
    have m2 : ¬ ((1000000 : Int) < (M : Int)) := by omega
    clear hT hQ hlo h1 h2 l1 l2
    go_enter Try.func16, Try.ntmps16
    go_wp2_with fail
    refine HL.out.mono ?_
    rintro e w1 ⟨rfl, hb1⟩
    have HB : Hid (Below w.heap.size w w1) := hb1
    clear hb1 HL
    go_wp2
    go_ret2
    exact ⟨rfl, HB.out⟩
  · rw [decide_eq_false hc, if_neg (by simp)]
    cases o with
    | false =>
      clear hc hlo l1 l2
      go_enter Try.func16, Try.ntmps16
      go_wp2_with fail
      refine HL.out.mono ?_
      rintro e w1 ⟨rfl, hb1⟩
      have HB : Hid (Below w.heap.size w w1) := hb1
      clear hb1 HL
      go_wp2
      go_ret2
      exact ⟨rfl, HB.out⟩
    | true =>
      clear hlo
      by_cases a0 : A = 0
      · subst a0
        clear hc l1 l2
        go_enter Try.func16, Try.ntmps16
        go_wp2_with fail
        refine HL.out.mono ?_
        rintro e w1 ⟨rfl, hb1⟩
        have HB : Hid (Below w.heap.size w w1) := hb1
        clear hb1 HL
        go_wp2
        go_ret2
        exact ⟨rfl, HB.out⟩
      · have a0' : ((A : Int) == 0) = false := beq_eq_false_iff_ne.2 (by omega)
        by_cases b0 : B = 0
        · subst b0
          clear hc l1 l2 a0
          go_enter Try.func16, Try.ntmps16
          go_wp2_with fail
          refine HL.out.mono ?_
          rintro e w1 ⟨rfl, hb1⟩
          have HB : Hid (Below w.heap.size w w1) := hb1
          clear hb1 HL
          go_wp2
          go_ret2
          exact ⟨rfl, HB.out⟩
        · have b0' : ((B : Int) == 0) = false := beq_eq_false_iff_ne.2 (by omega)
          by_cases m1 : num < 1
          · clear hc l1 l2 a0 b0
            go_enter Try.func16, Try.ntmps16
            go_wp2_with fail
            refine HL.out.mono ?_
            rintro e w1 ⟨rfl, hb1⟩
            have HB : Hid (Below w.heap.size w w1) := hb1
            clear hb1 HL
            go_wp2
            go_ret2
            exact ⟨rfl, HB.out⟩
          · have m2 : 1000000 < num := by
              apply Classical.byContradiction
              intro hh
              exact hc ⟨a0, b0, by omega, by omega⟩
            clear hc l1 l2 a0 b0
            go_enter Try.func16, Try.ntmps16
            go_wp2_with fail
            refine HL.out.mono ?_
            rintro e w1 ⟨rfl, hb1⟩
            have HB : Hid (Below w.heap.size w w1) := hb1
            clear hb1 HL
            go_wp2
            go_ret2
            exact ⟨rfl, HB.out⟩
set_option maxRecDepth 100000 in
set_option maxHeartbeats 2000000 in
theorem gk_beat1 (w : World) (p : Nat) (s : Gq.St) (who : Int) (g m : Nat) (disc : Bool) (hr : RowT 50 w p (Ek.cs s)) (hn : Gq.steady s ≤ 1000) (ht : (disc || who != Ek.wh s) = false) (HO : Hid (Gq.Ok (Gq.beat s who g m disc))) :
    Ob.Turns Try.prog GlobalAt 11 #[Ob.ptr p, .int .i64 who, .int .u16 (g : Int), .int .u16 (m : Int), .bool disc] w p (fun j => j = p) (Gq.beat s who g m disc) (.tuple #[]) := by
  have HE : Hid (Ek.cs (Gq.beat s who g m disc) = Ek.c6 g m (Ek.gl s) (Ek.mk s) who (min (Gq.steady s + 1) 1000 : Nat)) := Ek.beat_on s who g m disc ht
  obtain ⟨rfl, hw⟩ : disc = false ∧ (who != Ek.wh s) = false := by simpa using ht
  have c4 : w.cell? ⟨p, 4, none⟩ = some (.int .i64 (Ek.wh s)) := hr.c 4 _ rfl
  have HM : Hid (RowT 50 w p (Ek.c6 (Ek.gl s) (Ek.mk s) (Ek.og s) (Ek.om s) (Ek.wh s) (Gq.steady s))) := hr
  obtain ⟨K, hK⟩ : ∃ K : Nat, min (Gq.steady s + 1) 1000 = K := ⟨_, rfl⟩
  rw [hK] at HE
  have eK : min ((Gq.steady s : Int) + 1) 1000 = (K : Int) := by omega
  have n1 : (Gq.steady s : Int) ≤ 1000 := by omega
  clear hr ht hK hn
  generalize Ek.gl s = G at *
  generalize Ek.mk s = M at *
  generalize Ek.og s = OG at *
  generalize Ek.om s = OM at *
  generalize Ek.wh s = WH at *
  generalize Gq.steady s = N at *
  unfold Ob.Turns
  go_enter Try.func11, Try.ntmps11
  go_wp2_with fail
  refine Lw.region_tail 8 (by kernel_rfl) (by kernel_rfl) ?_
  intro w2 hw2
  have HM2 : Hid (RowT 50 w2 p (Ek.c6 G M OG OM WH N)) := by subst hw2; exact HM.out
  have HK2 : Hid (Kept (fun j => j = p) w w2) := by subst hw2; exact Kept.trans (Kept.refl _ _) (G := fun _ => False) (Kept.of_below (Below.refl _ _).drew) (fun g h => h.elim)
  clear hw2 HM
  simp only [List.take_succ_cons, List.take_zero, List.drop_succ_cons, List.drop_zero]
  repeat (first | still_step)
  refine wpStill_nil ?_
  refine wpList_copyAt (P := Try.prog) rfl (.tmp 24) (.tmp 28) 51 51 rfl 47 2 Try.underlying51 binfo11 p 2 (some ⟨p, 0, none⟩) 1 1 2 2 1 rfl rfl (Ek.c6 G M OG OM WH N) 50 HM2.out [.int .u16 (G : Int), .int .u16 (M : Int)] rfl rfl ⟨_, rfl, Ek.front HM2.out⟩ (show 4 ≤ 6 by decide) (by simp [Value.oneCell']) (Ek.c6 G M G M WH N) rfl ?_
  intro w3 HM3 HK3
  replace HK3 : Hid (Kept (fun j => j = p) w w3) := HK2.out.trans HK3.out (fun g hg => Or.inl hg)
  clear HM2 HK2
  have c0 : w3.cell? ⟨p, 0, none⟩ = some (.int .u16 (G : Int)) := HM3.out.c 0 _ rfl
  have c1 : w3.cell? ⟨p, 1, none⟩ = some (.int .u16 (M : Int)) := HM3.out.c 1 _ rfl
  have c4 : w3.cell? ⟨p, 4, none⟩ = some (.int .i64 WH) := HM3.out.c 4 _ rfl
  have c5 : w3.cell? ⟨p, 5, none⟩ = some (.int .i64 (N : Int)) := HM3.out.c 5 _ rfl
  have f0 := HM3.out.f 0
  have f1 := HM3.out.f 1
  have f4 := HM3.out.f 4
  have f5 := HM3.out.f 5
  go_wp2
  go_end0
  refine ⟨rfl, _, ⟨rfl, ?_, HO.out⟩, fun g hg => Or.inl hg, HK3.out.sets.sets.sets.sets⟩
  rw [HE.out]
  exact (((HM3.out.set 0 _).set 1 _).set 4 _).set 5 _
set_option maxRecDepth 100000 in
set_option maxHeartbeats 2000000 in
theorem gk_beat0 (w : World) (p : Nat) (s : Gq.St) (who : Int) (g m : Nat) (disc : Bool) (h : GlobalAt w p (fun j => j = p) s) (ht : (disc || who != Ek.wh s) = true) (HO : Hid (Gq.Ok (Gq.beat s who g m disc))) :
    Ob.Turns Try.prog GlobalAt 11 #[Ob.ptr p, .int .i64 who, .int .u16 (g : Int), .int .u16 (m : Int), .bool disc] w p (fun j => j = p) (Gq.beat s who g m disc) (.tuple #[]) := by
  have HE : Hid (Ek.cs (Gq.beat s who g m disc) = Ek.c6 g m 0 0 who 1) := Ek.beat_new s who g m disc ht
  have HF := gk_forget w p _ s h
  have c4 : w.cell? ⟨p, 4, none⟩ = some (.int .i64 (Ek.wh s)) := h.2.1.c 4 _ rfl
  clear h
  generalize Ek.wh s = WH0 at *
  unfold Ob.Turns at HF ⊢
  cases disc with
  | true =>
    clear ht c4
    go_enter Try.func11, Try.ntmps11
    go_wp2_with fail
    refine HF.mono ?_
    rintro e w1 ⟨rfl, F', ⟨rfl, HR, _⟩, _, hk⟩
    obtain ⟨WH, N, K, G, M, OG, OM, hN, hK, hz, HM⟩ : ∃ (WH : Int) (N K G M OG OM : Nat), N = 0 ∧ K = 1 ∧ (G = 0 ∧ M = 0) ∧ Hid (RowT 50 w1 p (Ek.c6 G M OG OM WH N)) := ⟨0, 0, 1, 0, 0, 0, 0, rfl, rfl, ⟨rfl, rfl⟩, HR⟩
    replace HE : Hid (Ek.cs (Gq.beat s who g m true) = Ek.c6 g m G M who K) := by show _ = _; rw [hz.1, hz.2, hK]; exact HE.out
    have eK : min ((N : Int) + 1) 1000 = (K : Int) := by omega
    have n1 : (N : Int) ≤ 1000 := by omega
    have HKw : Hid (Kept (fun j => j = p) w w1) := hk
    clear HR hk hN hK hz HF
    go_wp2_with fail
    refine Lw.region_tail 8 (by kernel_rfl) (by kernel_rfl) ?_
    intro w2 hw2
    have HM2 : Hid (RowT 50 w2 p (Ek.c6 G M OG OM WH N)) := by subst hw2; exact HM.out
    have HK2 : Hid (Kept (fun j => j = p) w w2) := by subst hw2; exact Kept.trans HKw.out (G := fun _ => False) (Kept.of_below (Below.refl _ _).drew) (fun g h => h.elim)
    clear hw2 HM
    simp only [List.take_succ_cons, List.take_zero, List.drop_succ_cons, List.drop_zero]
    repeat (first | still_step)
    refine wpStill_nil ?_
    refine wpList_copyAt (P := Try.prog) rfl (.tmp 24) (.tmp 28) 51 51 rfl 47 2 Try.underlying51 binfo11 p 2 (some ⟨p, 0, none⟩) 1 1 2 2 1 rfl rfl (Ek.c6 G M OG OM WH N) 50 HM2.out [.int .u16 (G : Int), .int .u16 (M : Int)] rfl rfl ⟨_, rfl, Ek.front HM2.out⟩ (show 4 ≤ 6 by decide) (by simp [Value.oneCell']) (Ek.c6 G M G M WH N) rfl ?_
    intro w3 HM3 HK3
    replace HK3 : Hid (Kept (fun j => j = p) w w3) := HK2.out.trans HK3.out (fun g hg => Or.inl hg)
    clear HM2 HK2
    have c0 : w3.cell? ⟨p, 0, none⟩ = some (.int .u16 (G : Int)) := HM3.out.c 0 _ rfl
    have c1 : w3.cell? ⟨p, 1, none⟩ = some (.int .u16 (M : Int)) := HM3.out.c 1 _ rfl
    have c4 : w3.cell? ⟨p, 4, none⟩ = some (.int .i64 WH) := HM3.out.c 4 _ rfl
    have c5 : w3.cell? ⟨p, 5, none⟩ = some (.int .i64 (N : Int)) := HM3.out.c 5 _ rfl
    have f0 := HM3.out.f 0
    have f1 := HM3.out.f 1
    have f4 := HM3.out.f 4
    have f5 := HM3.out.f 5
    go_wp2
    go_end0
    refine ⟨rfl, _, ⟨rfl, ?_, HO.out⟩, fun g hg => Or.inl hg, HK3.out.sets.sets.sets.sets⟩
    rw [HE.out]
    exact (((HM3.out.set 0 _).set 1 _).set 4 _).set 5 _
  | false =>
    have hw : (who != WH0) = true := by simpa using ht
    clear ht
    go_enter Try.func11, Try.ntmps11
    go_wp2_with fail
    refine HF.mono ?_
    rintro e w1 ⟨rfl, F', ⟨rfl, HR, _⟩, _, hk⟩
    obtain ⟨WH, N, K, G, M, OG, OM, hN, hK, hz, HM⟩ : ∃ (WH : Int) (N K G M OG OM : Nat), N = 0 ∧ K = 1 ∧ (G = 0 ∧ M = 0) ∧ Hid (RowT 50 w1 p (Ek.c6 G M OG OM WH N)) := ⟨0, 0, 1, 0, 0, 0, 0, rfl, rfl, ⟨rfl, rfl⟩, HR⟩
    replace HE : Hid (Ek.cs (Gq.beat s who g m false) = Ek.c6 g m G M who K) := by show _ = _; rw [hz.1, hz.2, hK]; exact HE.out
    have eK : min ((N : Int) + 1) 1000 = (K : Int) := by omega
    have n1 : (N : Int) ≤ 1000 := by omega
    have HKw : Hid (Kept (fun j => j = p) w w1) := hk
    clear HR hk hN hK hz HF c4 hw
    go_wp2_with fail
    refine Lw.region_tail 8 (by kernel_rfl) (by kernel_rfl) ?_
    intro w2 hw2
    have HM2 : Hid (RowT 50 w2 p (Ek.c6 G M OG OM WH N)) := by subst hw2; exact HM.out
    have HK2 : Hid (Kept (fun j => j = p) w w2) := by subst hw2; exact Kept.trans HKw.out (G := fun _ => False) (Kept.of_below (Below.refl _ _).drew) (fun g h => h.elim)
    clear hw2 HM
    simp only [List.take_succ_cons, List.take_zero, List.drop_succ_cons, List.drop_zero]
    repeat (first | still_step)
    refine wpStill_nil ?_
    refine wpList_copyAt (P := Try.prog) rfl (.tmp 24) (.tmp 28) 51 51 rfl 47 2 Try.underlying51 binfo11 p 2 (some ⟨p, 0, none⟩) 1 1 2 2 1 rfl rfl (Ek.c6 G M OG OM WH N) 50 HM2.out [.int .u16 (G : Int), .int .u16 (M : Int)] rfl rfl ⟨_, rfl, Ek.front HM2.out⟩ (show 4 ≤ 6 by decide) (by simp [Value.oneCell']) (Ek.c6 G M G M WH N) rfl ?_
    intro w3 HM3 HK3
    replace HK3 : Hid (Kept (fun j => j = p) w w3) := HK2.out.trans HK3.out (fun g hg => Or.inl hg)
    clear HM2 HK2
    have c0 : w3.cell? ⟨p, 0, none⟩ = some (.int .u16 (G : Int)) := HM3.out.c 0 _ rfl
    have c1 : w3.cell? ⟨p, 1, none⟩ = some (.int .u16 (M : Int)) := HM3.out.c 1 _ rfl
    have c4 : w3.cell? ⟨p, 4, none⟩ = some (.int .i64 WH) := HM3.out.c 4 _ rfl
    have c5 : w3.cell? ⟨p, 5, none⟩ = some (.int .i64 (N : Int)) := HM3.out.c 5 _ rfl
    have f0 := HM3.out.f 0
    have f1 := HM3.out.f 1
    have f4 := HM3.out.f 4
    have f5 := HM3.out.f 5
    go_wp2
    go_end0
    refine ⟨rfl, _, ⟨rfl, ?_, HO.out⟩, fun g hg => Or.inl hg, HK3.out.sets.sets.sets.sets⟩
    rw [HE.out]
    exact (((HM3.out.set 0 _).set 1 _).set 4 _).set 5 _
theorem globalSpec : GlobalSpec GlobalAt where
  is := globalI
  ok := fun h => h.2.2
  new := gk_new
  beat := fun w p F s who g m disc _ hg hm h => by
    have HO : Hid (Gq.Ok (Gq.beat s who g m disc)) := Gq.ok_beat h.2.2 who hg hm disc
    have hn := Gq.steady_le h.2.2
    obtain rfl := h.1
    cases ht : (disc || who != Ek.wh s) with
    | true => exact gk_beat0 w p s who g m disc h ht HO
    | false => exact gk_beat1 w p s who g m disc h.2.1 hn ht HO
  tell := gk_tell
  steady := gk_steady
  lens := gk_lens
  rate := fun w p F s num _ h => gk_rate w p F s num h
  forget := gk_forget
  copy := gk_copy
end Go.Proofs.Ytpdeimnjmhgdgaa
