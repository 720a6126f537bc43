/- ClockPlays: every row of ticks and rates: the time, the part, the rate behind each, for every slice of at most 200 steps (others are let by); no condition. -/
import Derived.Test.YtjjahfmjiinpcaaC2
import Derived.Test.YtjjahfmjiinpcaaC3
import Derived.Test.YtjjahfmjiinpcaaFo
import Derived.Deep.RegionHeld3
import Derived.Deep.CutBlock
import Derived.ProofKit
import Derived.OpenShut
namespace Go.Proofs.Ytjjahfmjiinpcaa.clockPlays
open Go.ChangeShapes Go.WideShapes Go.ChangeAt Go.RowKit
set_option linter.unusedVariables false
variable {At : Ob.A Ck.St}
def StepRow (W : World) (s : Option Addr) (len : Nat) (wh n d : Nat → Int) : Prop := len = 0 ∨ ∃ b off, s = some ⟨b, off, none⟩ ∧ ∀ i, i < len →
  W.cell? ⟨b, off + i * 3, none⟩ = some (.int .i64 (wh i)) ∧ W.cell? ⟨b, off + i * 3 + 1, none⟩ = some (.int .i64 (n i)) ∧ W.cell? ⟨b, off + i * 3 + 2, none⟩ = some (.int .i64 (d i)) ∧ (Lit.int .i64 (n i)).wf = true ∧ (Lit.int .i64 (d i)).wf = true
set_option maxRecDepth 100000 in
set_option maxHeartbeats 4000000 in
theorem row (S : ClockSpec At) (u : Int) (hu : (Lit.int .i64 u).wf = true) (s : Option Addr) (len cap : Nat) (wh n d : Nat → Int) (hl : len ≤ 200) (W : World) (h1 : Hid (StepRow W s len wh n d)) :
    Calls Try.prog 3 #[.int .i64 u, .slice s len cap] W fun e w' => e = .returned (.bool true) ∧ Below W.heap.size W w' := by
  have hk := known9_any S W
  have IsA := S.is
  have IsB := rcIs
  go_enter Try.func3, Try.ntmps3
  go_wp2_with fail
  refine hk.mono ?_
  rintro e w1 ⟨rfl, hb1⟩
  have hA : Hid (Below W.heap.size W w1) := hb1
  clear hk hb1
  go_wp2_with fail
  refine (Ob.own_new (B := W.heap.size) (S.new _ u hu) hA.out.size).mono ?_
  rintro e w' ⟨p, rfl, O', hb'⟩
  replace hA : Hid (Below W.heap.size W w') := hA.out.trans hb'
  have OB : Hid (Ob.Own At W.heap.size w' p (Ck.new u)) := O'
  clear O' hb'
  go_wp2_with fail
  refine (Ob.two_new IsA (rc_new _ u) OB.out hA.out.size).mono ?_
  rintro e w' ⟨q, rfl, T', hb'⟩
  have TB : Hid (Ob.Two At RcAt W.heap.size w' _ _ q (Ck.new u)) := T'
  clear OB
  replace hA : Hid (Below W.heap.size W w') := hA.out.trans hb'
  clear T' hb'
  go_wp2_with fail
  go_loopw [7] (fun i wr => ∃ (k : Nat) (c : Ck.St), k ≤ len ∧ i = .int .i64 k ∧ Hid (Ob.Two At RcAt W.heap.size wr p c q c) ∧ Hid (Below W.heap.size W wr)) (fun i _ => len - (intOf i).toNat)
  case atStart => exact ⟨0, _, Nat.zero_le _, rfl, TB, hA⟩
  case round =>
    clear TB hA
    obtain ⟨k, c, hk, rfl, TB, hA⟩ := hrel
    by_cases hlt : k < len
    · obtain h0 | ⟨b1, o1, rfl, hc1⟩ := h1.out
      · omega
      have HX : Hid (∀ w : World, Below W.heap.size W w → w.cell? ⟨b1, o1 + k * 3, none⟩ = some (.int .i64 (wh k)) ∧ w.cell? ⟨b1, o1 + k * 3 + 1, none⟩ = some (.int .i64 (n k)) ∧ w.cell? ⟨b1, o1 + k * 3 + 2, none⟩ = some (.int .i64 (d k))) := fun w hb => by
        obtain ⟨a0, a1, a2, _⟩ := hc1 k hlt
        have hb1 := block_lt_of_cell a0
        exact ⟨(hb.cell (p := ⟨b1, o1 + k * 3, none⟩) hb1).trans a0, (hb.cell (p := ⟨b1, o1 + k * 3 + 1, none⟩) hb1).trans a1, (hb.cell (p := ⟨b1, o1 + k * 3 + 2, none⟩) hb1).trans a2⟩
      have HW1 : Hid ((Lit.int .i64 (n k)).wf = true) := (hc1 k hlt).2.2.2.1
      have HW2 : Hid ((Lit.int .i64 (d k)).wf = true) := (hc1 k hlt).2.2.2.2
      clear hc1 h1
      generalize wh k = wk at *
      generalize n k = N at *
      generalize d k = D at *
      obtain ⟨x0, x1, x2⟩ := HX.out _ hA.out
      go_upto_if 31 with fail
      go_cut [] from 26 to 74 (fun wx => ∃ c' : Ck.St, Hid (Ob.Two At RcAt W.heap.size wx p c' q c') ∧ Hid (Below W.heap.size W wx))
      case first =>
        by_cases w0 : wk = 0
        · subst w0
          have HF : Hid (∀ w : World, Below W.heap.size W w → w.cell? ⟨b1, o1 + k * 3 + 1, none⟩ = some (.int .i64 N) ∧ w.cell? ⟨b1, o1 + k * 3 + 2, none⟩ = some (.int .i64 D)) := fun w hb => (HX.out w hb).2
          clear x1 x2
          go_wp2_with fail
          go_region_held3 (fun w' => w'.cell? ⟨b1, o1 + k * 3 + 1, none⟩ = some (.int .i64 N) ∧ w'.cell? ⟨b1, o1 + k * 3 + 2, none⟩ = some (.int .i64 D))
            (exact HF.out _ (by first | exact hA.out | exact hA.out.drew))
            (first
              | (go_at_call 12; refine (Ob.two_turn IsB (fun F h => S.setRate _ _ F _ N D HW1.out HW2.out h) (TB.out.on IsA IsB (Below.refl _ _).drew) hA.out.drew.size).mono ?_; rintro e w' ⟨rfl, T', hb'⟩; replace hA : Hid (Below W.heap.size W w') := hA.out.drew.trans hb'; replace TB : Hid (Ob.Two At RcAt W.heap.size w' p (Ck.setRate c N D) q c) := T'; clear T' hb')
              | (go_at_call 13; refine (Ob.two_turn2 IsA (fun F h => rc_set _ _ F _ N D HW1.out h) TB.out hA.out.size).mono ?_; rintro e w' ⟨rfl, T', hb'⟩; replace hA : Hid (Below W.heap.size W w') := hA.out.trans hb'; replace TB : Hid (Ob.Two At RcAt W.heap.size w' p (Ck.setRate c N D) q (Ck.setRate c N D)) := T'; clear T' hb'))
          all_goals
            go_wp2_with fail
            go_meet
            case rel => exact ⟨_, TB, hA⟩
        · have w0' : (wk == 0) = false := beq_eq_false_iff_ne.2 w0
          clear w0
          go_wp2_with fail
          refine (Ob.three_copy IsA IsB (fun F h => S.copy _ _ F _ h) TB.out hA.out.size).mono ?_
          rintro e w' ⟨r, rfl, T', hb'⟩
          replace hA : Hid (Below W.heap.size W w') := hA.out.trans hb'
          have TR : Hid (Ob.Three At RcAt At W.heap.size w' p c q c r c) := T'
          clear T' hb' TB x0 x1 x2
          have x1 := (HX.out _ hA.out).2.1
          go_wp2_with fail
          refine (Ob.three_turn IsB IsA (fun F h => S.tick _ _ F _ N HW1.out h) TR.out hA.out.size).mono ?_
          rintro e w' ⟨rfl, T', hb'⟩
          replace hA : Hid (Below W.heap.size W w') := hA.out.trans hb'
          replace TR : Hid (Ob.Three At RcAt At W.heap.size w' _ (Ck.tick c N) _ c _ c) := T'
          clear T' hb' x1
          have x1 := (HX.out _ hA.out).2.1
          go_wp2_with fail
          refine (Ob.three_turn2 IsA IsA (fun F h => rc_tick _ _ F _ N h) TR.out hA.out.size).mono ?_
          rintro e w' ⟨rfl, T', hb'⟩
          replace hA : Hid (Below W.heap.size W w') := hA.out.trans hb'
          replace TR : Hid (Ob.Three At RcAt At W.heap.size w' _ (Ck.tick c N) _ (Ck.tick c N) _ c) := T'
          clear T' hb' x1
          have x1 := (HX.out _ hA.out).2.1
          go_wp2_with fail
          refine (Ob.three_turn3 IsA IsB (fun F h => S.tick _ _ F _ 3 rfl h) TR.out hA.out.size).mono ?_
          rintro e w' ⟨rfl, T', hb'⟩
          replace hA : Hid (Below W.heap.size W w') := hA.out.trans hb'
          replace TR : Hid (Ob.Three At RcAt At W.heap.size w' _ (Ck.tick c N) _ (Ck.tick c N) _ _) := T'
          clear T' hb' x1
          have x1 := (HX.out _ hA.out).2.1
          have TB : Hid (Ob.Two At RcAt W.heap.size _ p (Ck.tick c N) q (Ck.tick c N)) := TR.out.pair
          clear TR x1
          go_wp2
          go_meet
          case rel => exact ⟨_, TB, hA⟩
      case rest =>
        clear TB hA x0 x1 x2 HX HW1 HW2 c
        obtain ⟨c, TB, hA⟩ := hcut
        go_wp2_with fail
        refine (Ob.two_look IsA IsB (fun F h => S.rate _ _ F _ h) TB.out hA.out.size).mono ?_
        rintro e w' ⟨rfl, T', hb'⟩
        replace TB : Hid (Ob.Two At RcAt W.heap.size w' _ _ _ _) := T'
        replace hA : Hid (Below W.heap.size W w') := hA.out.trans hb'
        clear T' hb'
        have HTm : Hid (∀ w2, Below w'.heap.size w' w2 → Calls Try.prog 18 #[Ob.ptr p] w2 fun e w'' => e = .returned (.int .u16 (c.t : Int)) ∧ Below w2.heap.size w2 w'') := fun w2 hb => by
          obtain ⟨F, h, _⟩ := (TB.out.on IsA IsB hb).fst
          exact S.time _ _ F _ h
        have HPt : Hid (∀ w2, Below w'.heap.size w' w2 → Calls Try.prog 19 #[Ob.ptr p] w2 fun e w'' => e = .returned (.int .i64 (c.part : Int)) ∧ Below w2.heap.size w2 w'') := fun w2 hb => by
          obtain ⟨F, h, _⟩ := (TB.out.on IsA IsB hb).fst
          exact S.part _ _ F _ h
        have HRd : Hid (∀ w2, Below w'.heap.size w' w2 → w2.cell? ⟨q, 0, none⟩ = some (.int .u16 (c.t : Int)) ∧ w2.cell? ⟨q, 1, none⟩ = some (.int .i64 (c.part : Int)) ∧ w2.cell? ⟨q, 2, none⟩ = some (.int .i64 (c.num : Int))) := fun w2 hb => by
          obtain ⟨F, ⟨_, h, _⟩, _⟩ := (TB.out.on IsA IsB hb).snd
          exact ⟨h.c 0 _ rfl, h.c 1 _ rfl, h.c 2 _ rfl⟩
        go_wp2_with fail
        refine Lw.wp_region_quiet_below (by kernel_rfl) (by kernel_rfl) ?_
        repeat (first
          | go_big_quiet_skip
          | (go_big_quiet_want; go_big_quiet_op; go_big_quiet_on)
          | (go_big_quiet_want; go_big_quiet_op; apply Exists.intro; refine ⟨fun _ hb' => ?_, ?_⟩; (first
            | exact Lw.val_rfl _
            | (go_at_call 18; exact Lw.calls_below hb' (HTm.out _ hb'))
            | (go_at_call 19; exact Lw.calls_below hb' (HPt.out _ hb'))
            | (simp [go_sem, (HRd.out _ hb').1]; rfl)
            | (simp [go_sem, (HRd.out _ hb').2.1]; rfl)
            | (simp [go_sem, (HRd.out _ hb').2.2]; rfl)); go_big_quiet_on))
        refine wpQuiet_nil ?_
        intro w9 hb9
        replace hA : Hid (Below W.heap.size W w9) := hA.out.trans (hb9.mono hA.out.size)
        replace TB : Hid (Ob.Two At RcAt W.heap.size w9 p c q c) := TB.out.on IsA IsB hb9
        clear hb9 HTm HPt HRd
        go_wp2
        exact ⟨⟨k + 1, c, by omega, by simp, TB, hA⟩, by simp [intOf]; omega⟩
    · have hkl : k = len := by omega
      go_wp2
      go_ret
      exact ⟨rfl, hA.out⟩
set_option maxRecDepth 100000 in
set_option maxHeartbeats 1000000 in
theorem long (S : ClockSpec At) (u : Int) (s : Option Addr) (len cap : Nat) (hl : 200 < len) (W : World) :
    Calls Try.prog 3 #[.int .i64 u, .slice s len cap] W fun e w' => e = .returned (.bool true) ∧ Below W.heap.size W w' := by
  have hk := known9_any S W
  go_enter Try.func3, Try.ntmps3
  go_wp2_with fail
  refine hk.mono ?_
  rintro e w1 ⟨rfl, hb1⟩
  have hA : Hid (Below W.heap.size W w1) := hb1
  clear hk hb1
  go_wp2
  go_ret
  exact ⟨rfl, hA.out⟩
theorem stepFlat : Fo.flat Try.prog 3 29 = some [(0, .int .i64), (1, .int .i64), (2, .int .i64)] := by kernel_rfl
theorem steps_of_trod {H : Type} {enc : TypeId × Value → H} {w : World} {s : Option Addr} {len cap : Nat} {d : DataW H} {p : List MemPlace} (h : DataW.Trod enc Try.prog w 0 (fun _ => true) true 22 (.slice s len cap) d p) : ∃ wh n e, StepRow w s len wh n e := by
  obtain ⟨_, h0 | ⟨b, off, rfl, hc⟩⟩ := Fo.flat_rows 3 (.int .i64) [(1, .int .i64), (2, .int .i64)] 3 Try.underlying22 stepFlat (by kernel_rfl) h
  · exact ⟨fun _ => 0, fun _ => 0, fun _ => 0, Or.inl h0⟩
  · have key : ∀ i, ∃ t : Int × Int × Int, i < len → w.cell? ⟨b, off + i * 3, none⟩ = some (.int .i64 t.1) ∧ w.cell? ⟨b, off + i * 3 + 1, none⟩ = some (.int .i64 t.2.1) ∧ w.cell? ⟨b, off + i * 3 + 2, none⟩ = some (.int .i64 t.2.2) ∧ (Lit.int .i64 t.2.1).wf = true ∧ (Lit.int .i64 t.2.2).wf = true := fun i => by
      by_cases hi : i < len
      · have hq := hc i hi
        obtain ⟨v0, c0, n0, rfl, _⟩ := hq (0, .int .i64) (by simp)
        obtain ⟨v1, c1, n1, rfl, w1⟩ := hq (1, .int .i64) (by simp)
        obtain ⟨v2, c2, n2, rfl, w2⟩ := hq (2, .int .i64) (by simp)
        refine ⟨(n0, n1, n2), fun _ => ?_⟩
        simp only [← Nat.add_assoc] at c0 c1 c2
        exact ⟨c0, c1, c2, w1, w2⟩
      · exact ⟨(0, 0, 0), fun k => absurd k hi⟩
    obtain ⟨F, hF⟩ := Classical.axiomOfChoice key
    exact ⟨fun i => (F i).1, fun i => (F i).2.1, fun i => (F i).2.2, Or.inr ⟨b, off, rfl, hF⟩⟩
theorem walkA (S : ClockSpec At) (a0 : Int) (w0 : (Lit.int .i64 a0).wf = true) (s1 : Option Addr) (len1 cap1 : Nat) {w : World} (w1 : ∃ wh n e, StepRow w s1 len1 wh n e) (w' : World) (hw : w' = w) :
    Calls Try.prog 3 #[.int .i64 a0, .slice s1 len1 cap1] w' fun e w'' => e = .returned (.bool true) ∧ Below w'.heap.size w' w'' := by
  subst hw
  obtain ⟨wh, n, e, hR⟩ := w1
  by_cases h : 200 < len1
  · exact long S a0 _ _ _ h _
  · exact row S a0 w0 _ _ _ wh n e (by omega) _ hR
end Go.Proofs.Ytjjahfmjiinpcaa.clockPlays
