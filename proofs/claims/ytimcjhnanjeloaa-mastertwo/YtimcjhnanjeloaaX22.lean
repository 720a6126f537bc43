/- Package master, landed: its rank, and what it knows of the beats: one struct that each call sets whole. -/
import Derived.Test.YtimcjhnanjeloaaA22
import Derived.Test.YtimcjhnanjeloaaRg
import Derived.Test.YtimcjhnanjeloaaU2
import Derived.OpenShut
import Derived.Deep.MidRow
import Derived.Laws.StructEq
import Derived.BigQuiet
namespace Go.Proofs.Ytimcjhnanjeloaa
open Go.RowKit Go.WideShapes
set_option linter.unusedVariables false
def xmC (r : Int) (s : Q22.St) : Array Value := #[.int .i64 r, .int .i64 (s.st : Int), .int .i64 s.lead]
/-- A rank below 0 is kept as it came. -/
def MasterAt : Ob.A Q22.St := fun w p F s => F = (fun j => j = p) ∧ Q22.Ok s ∧ ∃ r : Int, s.rank = max (-1) r ∧ RowT 38 w p (xmC r s)
theorem masterIs : Ob.Is MasterAt where
  on := by
    rintro w w' p F s ⟨rfl, ok, r, hr, h⟩ hk
    exact ⟨rfl, ok, r, hr, (hk p rfl).trans h⟩
  lt := by
    rintro w p F s ⟨rfl, ok, r, hr, h⟩ g rfl
    exact h.lt
set_option maxRecDepth 100000 in
set_option maxHeartbeats 4000000 in
theorem xm_watch (w : World) (p : Nat) (F : Nat → Prop) (s : Q22.St) (h : MasterAt w p F s) : Ob.Turns Try.prog MasterAt 13 #[Ob.ptr p] w p F (Q22.watch s) (.tuple #[]) := by
  obtain ⟨rfl, ok, r, hr, h⟩ := h
  have HM : Hid (RowT 38 w p (xmC r s)) := h
  have HO : Hid (Q22.Ok (Q22.watch s)) := Q22.ok_watch ok
  have HR : Hid (s.rank = max (-1) r) := hr
  have c0 : w.cell? ⟨p, 0, none⟩ = some (.int .i64 r) := h.c 0 _ rfl
  have c1 : w.cell? ⟨p, 1, none⟩ = some (.int .i64 (s.st : Int)) := h.c 1 _ rfl
  have c2 : w.cell? ⟨p, 2, none⟩ = some (.int .i64 s.lead) := h.c 2 _ rfl
  have f1 := h.f 1
  have f2 := h.f 2
  clear h ok hr
  unfold Ob.Turns
  go_enter Try.func13, Try.ntmps13
  go_wp2
  go_end0
  exact ⟨rfl, _, ⟨rfl, HO.out, r, HR.out, (HM.out.set 1 _).set 2 _⟩, fun g hg => Or.inl hg, (Kept.refl _ _).sets.sets⟩
set_option maxRecDepth 100000 in
set_option maxHeartbeats 4000000 in
theorem xm_state (w : World) (p : Nat) (F : Nat → Prop) (s : Q22.St) (h : MasterAt w p F s) : Ob.Looks Try.prog 17 #[Ob.ptr p] w (.int .i64 (s.st : Int)) := by
  obtain ⟨rfl, ok, r, hr, h⟩ := h
  have c1 : w.cell? ⟨p, 1, none⟩ = some (.int .i64 (s.st : Int)) := h.c 1 _ rfl
  clear h ok hr
  unfold Ob.Looks
  go_enter Try.func17, Try.ntmps17
  go_wp2
  go_ret
  exact ⟨rfl, Below.refl _ _⟩
set_option maxRecDepth 100000 in
set_option maxHeartbeats 4000000 in
theorem xm_leader (w : World) (p : Nat) (F : Nat → Prop) (s : Q22.St) (h : MasterAt w p F s) : Ob.Looks Try.prog 18 #[Ob.ptr p] w (.int .i64 s.lead) := by
  obtain ⟨rfl, ok, r, hr, h⟩ := h
  have c2 : w.cell? ⟨p, 2, none⟩ = some (.int .i64 s.lead) := h.c 2 _ rfl
  clear h ok hr
  unfold Ob.Looks
  go_enter Try.func18, Try.ntmps18
  go_wp2
  go_ret
  exact ⟨rfl, Below.refl _ _⟩
set_option maxRecDepth 100000 in
set_option maxHeartbeats 4000000 in
theorem xm_standsE (w : World) (p : Nat) (r : Int) (h : w.cell? ⟨p, 0, none⟩ = some (.int .i64 r)) : Calls Try.prog 21 #[Ob.ptr p] w fun e w' => e = .returned (.bool (decide (0 ≤ r))) ∧ w' = w := by
  go_enter Try.func21, Try.ntmps21
  go_wp2
  go_ret
  exact ⟨rfl, rfl⟩
theorem max_rank {r k : Int} (h : k = max (-1) r) : decide (0 ≤ k) = decide (0 ≤ r) := by
  by_cases h0 : 0 ≤ r
  · rw [decide_eq_true h0, decide_eq_true (by omega)]
  · rw [decide_eq_false h0, decide_eq_false (by omega)]
theorem xm_stands (w : World) (p : Nat) (F : Nat → Prop) (s : Q22.St) (h : MasterAt w p F s) : Ob.Looks Try.prog 21 #[Ob.ptr p] w (.bool (Q22.stands s)) := by
  obtain ⟨rfl, ok, r, hr, h⟩ := h
  refine (xm_standsE w p r (h.c 0 _ rfl)).mono ?_
  rintro e w' ⟨rfl, rfl⟩
  exact ⟨by unfold Q22.stands; rw [max_rank hr], Below.refl _ _⟩
set_option maxRecDepth 100000 in
set_option maxHeartbeats 4000000 in
theorem xm_next (w : World) (k : Nat) (hk : k ≤ 2) : Calls Try.prog 22 #[.int .i64 (k : Int)] w fun e w' => e = .returned (.int .i64 (min 2 (k + 1) : Nat)) ∧ w' = w := by
  match k, hk with
  | 0, _ =>
    go_enter Try.func22, Try.ntmps22
    go_wp2
    go_ret
    exact ⟨rfl, rfl⟩
  | 1, _ =>
    go_enter Try.func22, Try.ntmps22
    go_wp2
    go_ret
    exact ⟨rfl, rfl⟩
  | 2, _ =>
    go_enter Try.func22, Try.ntmps22
    go_wp2
    go_ret
    exact ⟨rfl, rfl⟩
set_option maxRecDepth 100000 in
set_option maxHeartbeats 4000000 in
theorem xm_beat (w : World) (p : Nat) (F : Nat → Prop) (s : Q22.St) (k : Int) (hk : (Lit.int .i64 k).wf = true) (h : MasterAt w p F s) : Ob.Turns Try.prog MasterAt 15 #[Ob.ptr p, .int .i64 k] w p F (Q22.beat s k) (.tuple #[]) := by
  obtain ⟨rfl, ok, r, hr, h⟩ := h
  have hb := bounds_i64 hk
  have HM : Hid (RowT 38 w p (xmC r s)) := h
  have HO : Hid (Q22.Ok (Q22.beat s k)) := Q22.ok_beat ok (by omega) (by omega)
  have HR : Hid (s.rank = max (-1) r) := hr
  have HN : Hid (∀ w' : World, Calls Try.prog 22 #[.int .i64 (s.st : Int)] w' fun e w'' => e = .returned (.int .i64 (min 2 (s.st + 1) : Nat)) ∧ w'' = w') := fun w' => xm_next w' _ ok.st
  have c0 : w.cell? ⟨p, 0, none⟩ = some (.int .i64 r) := h.c 0 _ rfl
  have c1 : w.cell? ⟨p, 1, none⟩ = some (.int .i64 (s.st : Int)) := h.c 1 _ rfl
  have c2 : w.cell? ⟨p, 2, none⟩ = some (.int .i64 s.lead) := h.c 2 _ rfl
  have f1 := h.f 1
  have f2 := h.f 2
  clear h ok hr hb hk
  have HE : Hid (xmC r (Q22.beat s k) = #[.int .i64 r, .int .i64 ((min 2 (s.st + 1) : Nat) : Int), .int .i64 k]) := rfl
  unfold Ob.Turns
  generalize min 2 (s.st + 1) = N at HN HE
  go_enter Try.func15, Try.ntmps15
  go_wp2_with fail
  refine (HN.out _).mono ?_
  rintro e w1 ⟨rfl, rfl⟩
  go_wp2
  go_end0
  refine ⟨rfl, _, ⟨rfl, HO.out, r, HR.out, ?_⟩, fun g hg => Or.inl hg, (Kept.refl _ _).sets.sets⟩
  rw [HE.out]
  exact (HM.out.set 1 _).set 2 _
set_option maxRecDepth 100000 in
set_option maxHeartbeats 4000000 in
theorem xm_sent (w : World) (p : Nat) (F : Nat → Prop) (s : Q22.St) (h : MasterAt w p F s) : Ob.Turns Try.prog MasterAt 11 #[Ob.ptr p] w p F (Q22.sent s) (.tuple #[]) := by
  have h0 := h
  obtain ⟨rfl, ok, r, hr, h⟩ := h
  have HH : Hid (MasterAt w p (fun j => j = p) s) := h0
  have HM : Hid (RowT 38 w p (xmC r s)) := h
  have HO : Hid (Q22.Ok (Q22.sent s)) := Q22.ok_sent ok
  have HR : Hid (s.rank = max (-1) r) := hr
  have c0 : w.cell? ⟨p, 0, none⟩ = some (.int .i64 r) := h.c 0 _ rfl
  have c1 : w.cell? ⟨p, 1, none⟩ = some (.int .i64 (s.st : Int)) := h.c 1 _ rfl
  have c2 : w.cell? ⟨p, 2, none⟩ = some (.int .i64 s.lead) := h.c 2 _ rfl
  have f1 := h.f 1
  have f2 := h.f 2
  have HS : Hid (Calls Try.prog 21 #[Ob.ptr p] w fun e w' => e = .returned (.bool (decide (0 ≤ r))) ∧ w' = w) := xm_standsE w p r c0
  clear h ok hr h0
  unfold Ob.Turns
  by_cases hr0 : 0 ≤ r
  · have hE : Q22.sent s = ⟨s.rank, 2, s.rank⟩ := by unfold Q22.sent; rw [if_pos (by have := HR.out; omega)]
    have hk : s.rank = r := by have := HR.out; omega
    rw [decide_eq_true hr0] at HS
    have HE : Hid (xmC r (Q22.sent s) = #[.int .i64 r, .int .i64 2, .int .i64 r]) := by show _ = _; rw [hE, hk]; rfl
    have HR2 : Hid ((Q22.sent s).rank = max (-1) r) := (Q22.rank_sent s).trans HR.out
    clear hE hk
    go_enter Try.func11, Try.ntmps11
    go_wp2_with fail
    refine HS.out.mono ?_
    rintro e w1 ⟨rfl, rfl⟩
    go_wp2
    go_end0
    refine ⟨rfl, _, ⟨rfl, HO.out, r, HR2.out, ?_⟩, fun g hg => Or.inl hg, (Kept.refl _ _).sets.sets⟩
    rw [HE.out]
    exact (HM.out.set 1 _).set 2 _
  · have hE : Q22.sent s = s := by unfold Q22.sent; rw [if_neg (by have := HR.out; omega)]
    rw [decide_eq_false hr0] at HS
    rw [hE]
    clear hE
    go_enter Try.func11, Try.ntmps11
    go_wp2_with fail
    refine HS.out.mono ?_
    rintro e w1 ⟨rfl, rfl⟩
    go_wp2
    go_end0
    exact ⟨rfl, _, HH.out, fun g hg => Or.inl hg, Kept.refl _ _⟩
set_option maxRecDepth 100000 in
set_option maxHeartbeats 4000000 in
theorem xm_new (w : World) (r : Int) (hr : (Lit.int .i64 r).wf = true) : Ob.Makes Try.prog MasterAt 8 #[.int .i64 r] w (Q22.mk r) := by
  have hb := bounds_i64 hr
  have hok : Q22.Ok (Q22.mk r) := Q22.ok_mk (by omega)
  have HS : Hid (MasterAt (w.alloc (.cells (xmC r ⟨max (-1) r, 0, 0⟩) 38)) w.heap.size (fun j => j = w.heap.size) ⟨max (-1) r, 0, 0⟩) :=
    ⟨rfl, ⟨Nat.zero_le _, hok.lo, hok.hi, (by decide : (-9223372036854775808 : Int) ≤ 0), (by decide : (0 : Int) < 9223372036854775808)⟩, r, rfl, RowT.new _ _ _⟩
  have HW : Hid (Ob.Turns Try.prog MasterAt 13 #[Ob.ptr w.heap.size] (w.alloc (.cells (xmC r ⟨max (-1) r, 0, 0⟩) 38)) w.heap.size (fun j => j = w.heap.size) (Q22.mk r) (.tuple #[])) := xm_watch _ _ _ _ HS.out
  clear hb hok hr
  unfold Ob.Makes
  go_enter Try.func8, Try.ntmps8
  go_wp2_with fail
  refine HW.out.mono ?_
  rintro e w1 ⟨rfl, F', hA, hF, hK⟩
  have HX : Hid (MasterAt w1 w.heap.size F' (Q22.mk r)) := hA
  have HF' : Hid (∀ g, F' g → w.heap.size ≤ g) := fun g hg => by
    rcases hF g hg with h | h
    · omega
    · have : (w.alloc (.cells (xmC r ⟨max (-1) r, 0, 0⟩) 38)).heap.size = w.heap.size + 1 := by simp
      omega
  have HB : Hid (Below w.heap.size w w1) := ((Below.refl _ _).alloc (Nat.le_refl _) _).trans (hK.below (fun g hg => by have hg' : g = w.heap.size := hg; omega) (by simp))
  clear hA hF hK HW HS
  go_wp2
  go_ret
  exact ⟨_, _, rfl, HX.out, HF'.out, HB.out⟩
set_option maxRecDepth 100000 in
set_option maxHeartbeats 4000000 in
theorem xm_copy (w : World) (p : Nat) (F : Nat → Prop) (s : Q22.St) (h : MasterAt w p F s) : Ob.Makes Try.prog MasterAt 10 #[Ob.ptr p] w s := by
  obtain ⟨rfl, ok, r, hr, h⟩ := h
  have HO : Hid (Q22.Ok s) := ok
  have HR : Hid (s.rank = max (-1) r) := hr
  have c0 : w.cell? ⟨p, 0, none⟩ = some (.int .i64 r) := h.c 0 _ rfl
  have c1 : w.cell? ⟨p, 1, none⟩ = some (.int .i64 (s.st : Int)) := h.c 1 _ rfl
  have c2 : w.cell? ⟨p, 2, none⟩ = some (.int .i64 s.lead) := h.c 2 _ rfl
  clear h ok hr
  unfold Ob.Makes
  go_enter Try.func10, Try.ntmps10
  go_wp2
  go_ret
  exact ⟨_, _, rfl, ⟨rfl, HO.out, r, HR.out, RowT.new _ _ _⟩, fun g hg => by have hg' : g = w.heap.size := hg; omega, (Below.refl _ _).alloc (Nat.le_refl _) _⟩
/-- The two, compared. -/
theorem leads_plain {s : Q22.St} {r : Int} (hr : s.rank = max (-1) r) : Q22.leads s = (decide (0 ≤ r) && ((s.st : Int) == 2 && s.lead == max s.lead r)) := by
  unfold Q22.leads
  rw [max_rank hr]
  by_cases h0 : 0 ≤ r
  · have hk : s.rank = r := by omega
    have e1 : (s.st == 2) = ((s.st : Int) == 2) := by
      by_cases h : s.st = 2
      · rw [h]; rfl
      · rw [beq_eq_false_iff_ne.2 h, beq_eq_false_iff_ne.2 (show ¬ ((s.st : Int) = 2) by omega)]
    have e2 : decide (s.rank ≤ s.lead) = (s.lead == max s.lead r) := by
      rw [hk]
      by_cases h : r ≤ s.lead
      · rw [decide_eq_true h, beq_iff_eq.2 (by omega)]
      · rw [decide_eq_false h, beq_eq_false_iff_ne.2 (by omega)]
    rw [e1, e2]
  · rw [decide_eq_false h0]; rfl
set_option maxRecDepth 100000 in
set_option maxHeartbeats 4000000 in
theorem xm_eq (w : World) (a b x y : Int) : (binOp .eql 36 (.agg #[.int .i64 a, .int .i64 b]) (.agg #[.int .i64 x, .int .i64 y])).run Try.prog w = .ok (.bool (a == x && b == y)) w := by
  go_simp
  by_cases h1 : a = x <;> by_cases h2 : b = y <;> simp [h1, h2]
set_option maxRecDepth 100000 in
set_option maxHeartbeats 4000000 in
theorem xm_leads (w : World) (p : Nat) (F : Nat → Prop) (s : Q22.St) (h : MasterAt w p F s) : Ob.Looks Try.prog 19 #[Ob.ptr p] w (.bool (Q22.leads s)) := by
  obtain ⟨rfl, ok, r, hr, h⟩ := h
  unfold Ob.Looks
  rw [leads_plain hr]
  have c0 : w.cell? ⟨p, 0, none⟩ = some (.int .i64 r) := h.c 0 _ rfl
  have c1 : w.cell? ⟨p, 1, none⟩ = some (.int .i64 (s.st : Int)) := h.c 1 _ rfl
  have c2 : w.cell? ⟨p, 2, none⟩ = some (.int .i64 s.lead) := h.c 2 _ rfl
  have hp : p < w.heap.size := h.lt
  have hne : p ≠ w.heap.size := by omega
  obtain ⟨z, hz⟩ : ∃ z, max s.lead r = z := ⟨_, rfl⟩
  obtain ⟨b, hbb⟩ : ∃ b, decide (0 ≤ r) = b := ⟨_, rfl⟩
  obtain ⟨c, hcc⟩ : ∃ c, ((s.st : Int) == 2) = c := ⟨_, rfl⟩
  obtain ⟨d, hdd⟩ : ∃ d, (s.lead == z) = d := ⟨_, rfl⟩
  rw [hz, hbb, hcc, hdd]
  have HB : Hid (decide (0 ≤ r) = b) := hbb
  clear hbb
  have hEQ : ∀ w', (binOp .eql 36 (.agg #[.int .i64 (s.st : Int), .int .i64 s.lead]) (.agg #[.int .i64 2, .int .i64 z])).run Try.prog w' = .ok (.bool (c && d)) w' := fun w' => by rw [xm_eq, hcc, hdd]
  go_enter Try.func19, Try.ntmps19
  go_wp2_with fail
  go_region
  all_goals
    have hB : Below w.heap.size w (w.alloc (Obj.cells #[Value.int IntKind.i64 2, Value.int IntKind.i64 z] 36)).drew := ((Below.refl _ _).alloc (Nat.le_refl _) _).drew
    have hN : RowT 36 (w.alloc (Obj.cells #[Value.int IntKind.i64 2, Value.int IntKind.i64 z] 36)).drew w.heap.size #[Value.int IntKind.i64 2, Value.int IntKind.i64 z] := (RowT.new _ _ _).on (Below.refl _ _).drew
    generalize (w.alloc (Obj.cells #[Value.int IntKind.i64 2, Value.int IntKind.i64 z] 36)).drew = w1 at *
    have HM1 : RowT 38 w1 p (xmC r s) := h.on hB
    have HR : Hid (∀ w' : World, Below w1.heap.size w1 w' → (w'.cell? ⟨p, 1, none⟩ = some (.int .i64 (s.st : Int)) ∧ w'.cell? ⟨p, 2, none⟩ = some (.int .i64 s.lead)) ∧ w'.cell? ⟨w.heap.size, 0, none⟩ = some (.int .i64 2) ∧ w'.cell? ⟨w.heap.size, 1, none⟩ = some (.int .i64 z)) := fun w' hb => ⟨⟨(HM1.on hb).c 1 _ rfl, (HM1.on hb).c 2 _ rfl⟩, (hN.on hb).c 0 _ rfl, (hN.on hb).c 1 _ rfl⟩
    have HS2 : Hid (∀ w' : World, Below w1.heap.size w1 w' → Calls Try.prog 21 #[Ob.ptr p] w' fun e w'' => e = .returned (.bool b) ∧ w'' = w') := fun w' hb => by have := xm_standsE w' p r ((HM1.on hb).c 0 _ rfl); rw [HB.out] at this; exact this
    have HB1 : Hid (∀ w' : World, Below w1.heap.size w1 w' → Below w.heap.size w w') := fun w' hb => hB.trans (hb.mono hB.size)
    clear hB hN c0 c1 c2 HB hp hne hz HM1 h ok hr
    generalize w.heap.size = g at HR ⊢
    go_wp2_with fail
    cases b
    all_goals
      refine Lw.wp_region_quiet_below (by kernel_rfl) (by kernel_rfl) ?_
      repeat (first
        | go_big_quiet_skip
        | (go_big_quiet_want; go_big_quiet_op; go_big_quiet_on)
        | (go_big_quiet_want; go_big_quiet_op; apply Exists.intro; refine ⟨fun _ hb' => ?_, ?_⟩; (first
          | exact Lw.val_rfl _
          | (go_at_call 21; exact Lw.calls_same hb' (HS2.out _ hb'))
          | (simp [go_sem, (HR.out _ hb').1]; rfl)
          | (simp [go_sem, (HR.out _ hb').1.1, (HR.out _ hb').1.2]; rfl)
          | (simp [go_sem, (HR.out _ hb').2.1, (HR.out _ hb').2.2]; rfl)
          | (simp [go_sem, hEQ]; rfl)); go_big_quiet_on))
      refine wpQuiet_nil ?_
      intro w' hb'
      have hb2 := HB1.out w' hb'
      clear hb' HR HS2 HB1
      go_wp2
      go_ret
      exact ⟨rfl, hb2⟩
theorem masterSpec : MasterSpec MasterAt where
  is := masterIs
  ok := fun ⟨_, ok, _⟩ => ok
  new := xm_new
  beat := fun w p F s r hr h => xm_beat w p F s r hr h
  sent := xm_sent
  watch := xm_watch
  state := xm_state
  leader := xm_leader
  leads := xm_leads
  stands := xm_stands
  copy := xm_copy
end Go.Proofs.Ytimcjhnanjeloaa
