/- MarkPlays: every row of starts, beats, and forgetting: the time within the cycle, its number, its beginning, behind each, for every slice of at most 100 steps (others are let by) and every time; no condition. -/
import Derived.Test.YtkdpdeokpndblaaD2
import Derived.Test.YtkdpdeokpndblaaD3
import Derived.Test.YtkdpdeokpndblaaFo
import Derived.Deep.CutBlock
import Derived.ProofKit
import Derived.OpenShut
namespace Go.Proofs.Ytkdpdeokpndblaa.markPlays
open Go.ChangeShapes Go.WideShapes Go.ChangeAt Go.RowKit
set_option linter.unusedVariables false
variable {At : Ob.A Mq.St}
def StepRow (W : World) (s : Option Addr) (len : Nat) (wh cy : Nat → Int) (tm : Nat → Nat) : Prop := len = 0 ∨ ∃ b off, s = some ⟨b, off, none⟩ ∧ ∀ i, i < len →
  W.cell? ⟨b, off + i * 3, none⟩ = some (.int .i64 (wh i)) ∧ W.cell? ⟨b, off + i * 3 + 1, none⟩ = some (.int .i64 (cy i)) ∧ W.cell? ⟨b, off + i * 3 + 2, none⟩ = some (.int .u16 (tm i : Int)) ∧ (Lit.int .i64 (cy i)).wf = true ∧ tm i < 65536
theorem no_cycle {m : Mq.St} (h : Mq.is m = false) : Mq.cycle m = 0 := by
  obtain ⟨s, b⟩ := m
  cases b with
  | none => rfl
  | some b => cases h
set_option maxRecDepth 100000 in
set_option maxHeartbeats 4000000 in
theorem row (S : MarkSpec At) (t : Nat) (ht : t < 65536) (s : Option Addr) (len cap : Nat) (wh cy : Nat → Int) (tm : Nat → Nat) (hl : len ≤ 100) (W : World) (h1 : Hid (StepRow W s len wh cy tm)) :
    Calls Try.prog 3 #[.slice s len cap, .int .u16 (t : Int)] W fun e w' => e = .returned (.bool true) ∧ Below W.heap.size W w' := by
  have hk := known10_any S W
  have IsA := S.is
  have IsB := rmIs
  have BT : Hid (t < 65536) := ht
  have d1 : ¬ 100 < len := by omega
  clear ht hl
  go_enter Try.func3, Try.ntmps3
  go_wp2_with fail
  refine hk.mono ?_
  rintro e w1 ⟨rfl, hb1⟩
  have hA : Hid (Below W.heap.size W w1) := hb1
  clear hk hb1
  go_wp2_with fail
  refine (Ob.own_new (B := W.heap.size) (S.new _) hA.out.size).mono ?_
  rintro e w' ⟨p, rfl, O', hb'⟩
  replace hA : Hid (Below W.heap.size W w') := hA.out.trans hb'
  have OB : Hid (Ob.Own At W.heap.size w' p (Mq.no)) := O'
  clear O' hb'
  have TB : Hid (Ob.Two At RmAt W.heap.size (w'.alloc (.cells (rmC Mq.no) 29)) p Mq.no w'.heap.size Mq.no) := OneB.beside IsA _ Mq.ok_no OB.out hA.out.size
  have hA2 : Hid (Below W.heap.size W (w'.alloc (.cells (rmC Mq.no) 29))) := hA.out.alloc hA.out.size _
  clear OB
  go_wp2_with fail
  go_loopw [6, 7] (fun v i wr => ∃ (k : Nat) (m : Mq.St) (q : Nat), k ≤ len ∧ v = Ob.ptr q ∧ i = .int .i64 k ∧ Hid (Ob.Two At RmAt W.heap.size wr p m q m) ∧ Hid (Below W.heap.size W wr)) (fun _ i _ => len - (intOf i).toNat)
  case atStart => exact ⟨0, _, _, Nat.zero_le _, rfl, rfl, TB, hA2⟩
  case round =>
    clear TB hA hA2
    obtain ⟨k, m, q, hk, rfl, rfl, TB, hA⟩ := hrel
    by_cases hlt : k < len
    · obtain h0 | ⟨b1, o1, rfl, hc1⟩ := h1.out
      · omega
      have HX : Hid (∀ w : World, Below W.heap.size W w → w.cell? ⟨b1, o1 + k * 3, none⟩ = some (.int .i64 (wh k)) ∧ w.cell? ⟨b1, o1 + k * 3 + 1, none⟩ = some (.int .i64 (cy k)) ∧ w.cell? ⟨b1, o1 + k * 3 + 2, none⟩ = some (.int .u16 (tm k : Int))) := fun w hb => by
        obtain ⟨a0, a1, a2, _⟩ := hc1 k hlt
        have hb1 := block_lt_of_cell a0
        exact ⟨(hb.cell (p := ⟨b1, o1 + k * 3, none⟩) hb1).trans a0, (hb.cell (p := ⟨b1, o1 + k * 3 + 1, none⟩) hb1).trans a1, (hb.cell (p := ⟨b1, o1 + k * 3 + 2, none⟩) hb1).trans a2⟩
      have HW1 : Hid ((Lit.int .i64 (cy k)).wf = true) := (hc1 k hlt).2.2.2.1
      have HW2 : Hid (tm k < 65536) := (hc1 k hlt).2.2.2.2
      clear hc1 h1
      generalize wh k = wk at *
      generalize cy k = Y at *
      generalize tm k = T at *
      go_wp2_with fail
      refine (Ob.three_copy IsA IsB (fun F h => S.copy _ _ F _ h) TB.out hA.out.size).mono ?_
      rintro e w' ⟨r, rfl, T', hb'⟩
      replace hA : Hid (Below W.heap.size W w') := hA.out.trans hb'
      have TR : Hid (Ob.Three At RmAt At W.heap.size w' p m q m r m) := T'
      clear T' hb' TB
      obtain ⟨x0, x1, x2⟩ := HX.out _ hA.out
      go_upto_block 2 with fail
      go_cut [6] from 24 to 129 (fun v wx => ∃ (m' : Mq.St) (q' : Nat), v = Ob.ptr q' ∧ Hid (Ob.Three At RmAt At W.heap.size wx p m' q' m' r m) ∧ Hid (Below W.heap.size W wx))
      case first =>
        by_cases w0 : wk = 0
        · subst w0
          go_wp2_with fail
          refine (Ob.three_turn IsB IsA (fun F h => S.start _ _ F _ T HW2.out h) TR.out hA.out.size).mono ?_
          rintro e w' ⟨rfl, T', hb'⟩
          replace hA : Hid (Below W.heap.size W w') := hA.out.trans hb'
          replace TR : Hid (Ob.Three At RmAt At W.heap.size w' _ (Mq.begin m T) _ m _ m) := T'
          clear T' hb' x0 x1 x2
          obtain ⟨x0, x1, x2⟩ := HX.out _ hA.out
          go_wp2_with fail
          refine (Ob.three_turn2 IsA IsA (fun F h => rm_start _ _ F _ T HW2.out h) TR.out hA.out.size).mono ?_
          rintro e w' ⟨rfl, T', hb'⟩
          replace hA : Hid (Below W.heap.size W w') := hA.out.trans hb'
          replace TR : Hid (Ob.Three At RmAt At W.heap.size w' _ (Mq.begin m T) _ (Mq.begin m T) _ m) := T'
          clear T' hb' x0 x1 x2
          go_wp2
          go_meet
          case rel => exact ⟨_, q, rfl, TR, hA⟩
        · have w0' : (wk == 0) = false := beq_eq_false_iff_ne.2 w0
          clear w0
          by_cases w1 : wk = 1
          · subst w1
            go_wp2_with fail
            refine (Ob.three_turn IsB IsA (fun F h => S.beat _ _ F _ Y HW1.out h) TR.out hA.out.size).mono ?_
            rintro e w' ⟨rfl, T', hb'⟩
            replace hA : Hid (Below W.heap.size W w') := hA.out.trans hb'
            replace TR : Hid (Ob.Three At RmAt At W.heap.size w' _ (Mq.beat m Y) _ m _ m) := T'
            clear T' hb' x0 x1 x2
            obtain ⟨x0, x1, x2⟩ := HX.out _ hA.out
            go_wp2_with fail
            refine (Ob.three_turn2 IsA IsA (fun F h => rm_beat _ _ F _ Y h) TR.out hA.out.size).mono ?_
            rintro e w' ⟨rfl, T', hb'⟩
            replace hA : Hid (Below W.heap.size W w') := hA.out.trans hb'
            replace TR : Hid (Ob.Three At RmAt At W.heap.size w' _ (Mq.beat m Y) _ (Mq.beat m Y) _ m) := T'
            clear T' hb' x0 x1 x2
            go_wp2
            go_meet
            case rel => exact ⟨_, q, rfl, TR, hA⟩
          · have w1' : (wk == 1) = false := beq_eq_false_iff_ne.2 w1
            clear w1
            go_wp2_with fail
            refine (Ob.three_turn IsB IsA (fun F h => S.forget _ _ F _ h) TR.out hA.out.size).mono ?_
            rintro e w' ⟨rfl, T', hb'⟩
            replace hA : Hid (Below W.heap.size W w') := hA.out.trans hb'
            replace TR : Hid (Ob.Three At RmAt At W.heap.size w' _ Mq.no _ m _ m) := T'
            clear T' hb' x0 x1 x2
            have TR2 : Hid (Ob.Three At RmAt At W.heap.size (w'.alloc (.cells (rmC Mq.no) 29)) p Mq.no w'.heap.size Mq.no r m) := OneB.anew IsA IsA _ Mq.ok_no TR.out hA.out.size
            have hA2 : Hid (Below W.heap.size W (w'.alloc (.cells (rmC Mq.no) 29))) := hA.out.alloc hA.out.size _
            go_wp2
            go_meet
            case rel => exact ⟨_, _, rfl, TR2, hA2⟩
      case rest =>
        clear TR hA x0 x1 x2 HX HW1 HW2
        obtain ⟨m', q', rfl, TR, hA⟩ := hcut
        go_wp2_with fail
        refine (Ob.three_turn3 IsA IsB (fun F h => S.start _ _ F _ 1 (by decide) h) TR.out hA.out.size).mono ?_
        rintro e w' ⟨rfl, T', hb'⟩
        replace hA : Hid (Below W.heap.size W w') := hA.out.trans hb'
        replace TR : Hid (Ob.Three At RmAt At W.heap.size w' _ m' _ m' _ _) := T'
        clear T' hb'
        go_wp2_with fail
        refine (Ob.three_turn3 IsA IsB (fun F h => S.beat _ _ F _ 2 rfl h) TR.out hA.out.size).mono ?_
        rintro e w' ⟨rfl, T', hb'⟩
        replace hA : Hid (Below W.heap.size W w') := hA.out.trans hb'
        have TB : Hid (Ob.Two At RmAt W.heap.size w' p m' q' m') := T'.pair
        clear T' hb' TR
        go_wp2_with fail
        refine (Ob.two_look IsA IsB (fun F h => S.tell _ _ F _ t BT.out h) TB.out hA.out.size).mono ?_
        rintro e w' ⟨rfl, T', hb'⟩
        replace TB : Hid (Ob.Two At RmAt W.heap.size w' _ _ _ _) := T'
        replace hA : Hid (Below W.heap.size W w') := hA.out.trans hb'
        clear T' hb'
        go_wp2_with fail
        refine (Ob.two_look2 IsA IsB (fun F h => rm_tell _ _ F _ t BT.out h) TB.out hA.out.size).mono ?_
        rintro e w' ⟨rfl, T', hb'⟩
        replace TB : Hid (Ob.Two At RmAt W.heap.size w' _ _ _ _) := T'
        replace hA : Hid (Below W.heap.size W w') := hA.out.trans hb'
        clear T' hb'
        go_wp2_with fail
        refine (Ob.two_look IsA IsB (fun F h => S.last _ _ F _ h) TB.out hA.out.size).mono ?_
        rintro e w' ⟨rfl, T', hb'⟩
        replace TB : Hid (Ob.Two At RmAt W.heap.size w' _ _ _ _) := T'
        replace hA : Hid (Below W.heap.size W w') := hA.out.trans hb'
        clear T' hb'
        have HCl : Hid (∀ w2 : World, Ob.Two At RmAt W.heap.size w2 p m' q' m' → w2.cell? ⟨q', 3, none⟩ = some (.bool (Mq.is m')) ∧ w2.cell? ⟨q', 4, none⟩ = some (.int .i64 (Mq.cycle m' : Int))) := fun w2 h2 => by
          obtain ⟨F, ⟨_, h, _⟩, _⟩ := h2.snd
          exact ⟨h.c 3 _ rfl, h.c 4 _ rfl⟩
        obtain ⟨x3, x4⟩ := HCl.out _ TB.out
        have HLs : Hid (∀ w2 : World, Ob.Two At RmAt W.heap.size w2 p m' q' m' → W.heap.size ≤ w2.heap.size → Calls Try.prog 17 #[Ob.ptr q'] w2 fun e w3 => e = .returned (.int .u16 (Mq.last m' : Int)) ∧ Ob.Two At RmAt W.heap.size w3 p m' q' m' ∧ Below W.heap.size w2 w3) := fun w2 h2 hs => Ob.two_look2 IsA IsB (fun F h => rm_last _ _ F _ h) h2 hs
        have HCy : Hid (∀ w2 : World, Ob.Two At RmAt W.heap.size w2 p m' q' m' → W.heap.size ≤ w2.heap.size → Calls Try.prog 18 #[Ob.ptr p] w2 fun e w3 => e = .returned (.int .i64 (Mq.cycle m' : Int)) ∧ Ob.Two At RmAt W.heap.size w3 p m' q' m' ∧ Below W.heap.size w2 w3) := fun w2 h2 hs => Ob.two_look IsA IsB (fun F h => S.cycle _ _ F _ h) h2 hs
        generalize Mq.last m' = la at *
        cases hib : Mq.is m'
        · rw [hib] at x3 HCl
          have hc0 := no_cycle hib
          rw [hc0] at x4 HCl HCy
          clear hib hc0
          generalize Mq.tell m' t = tl at *
          go_wp2_with fail
          refine (HLs.out _ TB.out hA.out.size).mono ?_
          rintro e w' ⟨rfl, T', hb'⟩
          replace hA : Hid (Below W.heap.size W w') := hA.out.trans hb'
          replace TB : Hid (Ob.Two At RmAt W.heap.size w' p m' q' m') := T'
          clear T' hb' x3 x4
          obtain ⟨x3, x4⟩ := HCl.out _ TB.out
          go_wp2_with fail
          refine (HCy.out _ TB.out hA.out.size).mono ?_
          rintro e w' ⟨rfl, T', hb'⟩
          replace hA : Hid (Below W.heap.size W w') := hA.out.trans hb'
          replace TB : Hid (Ob.Two At RmAt W.heap.size w' p m' q' m') := T'
          clear T' hb' x3 x4
          go_wp2
          exact ⟨⟨k + 1, m', q', by omega, rfl, by simp, TB, hA⟩, by simp [intOf]; omega⟩
        · rw [hib] at x3 HCl
          clear hib
          generalize Mq.tell m' t = tl at *
          generalize Mq.cycle m' = yy at *
          go_wp2_with fail
          refine (HLs.out _ TB.out hA.out.size).mono ?_
          rintro e w' ⟨rfl, T', hb'⟩
          replace hA : Hid (Below W.heap.size W w') := hA.out.trans hb'
          replace TB : Hid (Ob.Two At RmAt W.heap.size w' p m' q' m') := T'
          clear T' hb' x3 x4
          obtain ⟨x3, x4⟩ := HCl.out _ TB.out
          go_wp2_with fail
          refine (HCy.out _ TB.out hA.out.size).mono ?_
          rintro e w' ⟨rfl, T', hb'⟩
          replace hA : Hid (Below W.heap.size W w') := hA.out.trans hb'
          replace TB : Hid (Ob.Two At RmAt W.heap.size w' p m' q' m') := T'
          clear T' hb' x3 x4
          go_wp2
          exact ⟨⟨k + 1, m', q', by omega, rfl, by simp, TB, hA⟩, by simp [intOf]; omega⟩
    · have hkl : k = len := by omega
      go_wp2
      go_ret
      exact ⟨rfl, hA.out⟩
set_option maxRecDepth 100000 in
set_option maxHeartbeats 1000000 in
theorem long (S : MarkSpec At) (t : Int) (s : Option Addr) (len cap : Nat) (hl : 100 < len) (W : World) :
    Calls Try.prog 3 #[.slice s len cap, .int .u16 t] W fun e w' => e = .returned (.bool true) ∧ Below W.heap.size W w' := by
  have hk := known10_any S W
  go_enter Try.func3, Try.ntmps3
  go_wp2_with fail
  refine hk.mono ?_
  rintro e w1 ⟨rfl, hb1⟩
  have hA : Hid (Below W.heap.size W w1) := hb1
  clear hk hb1
  go_wp2
  go_ret
  exact ⟨rfl, hA.out⟩
theorem stepFlat : Fo.flat Try.prog 3 31 = some [(0, .int .i64), (1, .int .i64), (2, .int .u16)] := by kernel_rfl
theorem u16_nat {x : Int} (h : (Lit.int .u16 x).wf = true) : ∃ n : Nat, x = (n : Int) ∧ n < 65536 := by
  obtain ⟨h1, h2⟩ := bounds_u16 h
  obtain ⟨n, rfl⟩ := Int.eq_ofNat_of_zero_le h1
  exact ⟨n, rfl, by omega⟩
theorem steps_of_trod {H : Type} {enc : TypeId × Value → H} {w : World} {s : Option Addr} {len cap : Nat} {d : DataW H} {p : List MemPlace} (h : DataW.Trod enc Try.prog w 0 (fun _ => true) true 22 (.slice s len cap) d p) : ∃ wh cy tm, StepRow w s len wh cy tm := by
  obtain ⟨_, h0 | ⟨b, off, rfl, hc⟩⟩ := Fo.flat_rows 3 (.int .i64) [(1, .int .i64), (2, .int .u16)] 3 Try.underlying22 stepFlat (by kernel_rfl) h
  · exact ⟨fun _ => 0, fun _ => 0, fun _ => 0, Or.inl h0⟩
  · have key : ∀ i, ∃ t : Int × Int × Nat, i < len → w.cell? ⟨b, off + i * 3, none⟩ = some (.int .i64 t.1) ∧ w.cell? ⟨b, off + i * 3 + 1, none⟩ = some (.int .i64 t.2.1) ∧ w.cell? ⟨b, off + i * 3 + 2, none⟩ = some (.int .u16 (t.2.2 : Int)) ∧ (Lit.int .i64 t.2.1).wf = true ∧ t.2.2 < 65536 := fun i => by
      by_cases hi : i < len
      · have hq := hc i hi
        obtain ⟨v0, c0, n0, rfl, _⟩ := hq (0, .int .i64) (by simp)
        obtain ⟨v1, c1, n1, rfl, w1⟩ := hq (1, .int .i64) (by simp)
        obtain ⟨v2, c2, n2, rfl, w2⟩ := hq (2, .int .u16) (by simp)
        obtain ⟨N2, rfl, hN2⟩ := u16_nat w2
        refine ⟨(n0, n1, N2), fun _ => ?_⟩
        simp only [← Nat.add_assoc] at c0 c1 c2
        exact ⟨c0, c1, c2, w1, hN2⟩
      · exact ⟨(0, 0, 0), fun k => absurd k hi⟩
    obtain ⟨F, hF⟩ := Classical.axiomOfChoice key
    exact ⟨fun i => (F i).1, fun i => (F i).2.1, fun i => (F i).2.2, Or.inr ⟨b, off, rfl, hF⟩⟩
theorem walkA (S : MarkSpec At) (s0 : Option Addr) (len0 cap0 : Nat) {w : World} (w0 : ∃ wh cy tm, StepRow w s0 len0 wh cy tm) (a1 : Int) (w1 : (Lit.int .u16 a1).wf = true) (w' : World) (hw : w' = w) :
    Calls Try.prog 3 #[.slice s0 len0 cap0, .int .u16 a1] w' fun e w'' => e = .returned (.bool true) ∧ Below w'.heap.size w' w'' := by
  subst hw
  obtain ⟨wh, cy, tm, hR⟩ := w0
  obtain ⟨t, rfl, ht⟩ := u16_nat w1
  by_cases h : 100 < len0
  · exact long S _ _ _ _ h _
  · exact row S t ht _ _ _ wh cy tm (by omega) _ hR
end Go.Proofs.Ytkdpdeokpndblaa.markPlays
