/- GlobalPlays: every row of beats: the time, how steady, lengths, rates, behind each, for every slice of at most 100 steps (others are let by), every time and every number; no condition. -/
import Derived.Test.YtpdeimnjmhgdgaaA2
import Derived.Test.YtpdeimnjmhgdgaaA3
import Derived.Test.YtpdeimnjmhgdgaaFo
import Derived.Deep.CutBlock
import Derived.ProofKit
import Derived.OpenShut
namespace Go.Proofs.Ytpdeimnjmhgdgaa.globalPlays
open Go.ChangeShapes Go.WideShapes Go.ChangeAt Go.RowKit
set_option linter.unusedVariables false
variable {At : Ob.A Gq.St}
structure Stp where
  fo : Bool
  wh : Int
  gl : Nat
  ma : Nat
  di : Bool
def stC (x : Stp) : Array Value := #[.bool x.fo, .int .i64 x.wh, .int .u16 (x.gl : Int), .int .u16 (x.ma : Int), .bool x.di]
def StAt : Ob.A Stp := OneB 31 stC (fun _ => True)
theorem stIs : Ob.Is StAt := OneB.is _ _ _
def StepRow (W : World) (s : Option Addr) (len : Nat) (f : Nat → Stp) : Prop := len = 0 ∨ ∃ b off, s = some ⟨b, off, none⟩ ∧ ∀ i, i < len →
  W.cell? ⟨b, off + i * 5, none⟩ = some (.bool (f i).fo) ∧ W.cell? ⟨b, off + i * 5 + 1, none⟩ = some (.int .i64 (f i).wh) ∧ W.cell? ⟨b, off + i * 5 + 2, none⟩ = some (.int .u16 ((f i).gl : Int)) ∧ W.cell? ⟨b, off + i * 5 + 3, none⟩ = some (.int .u16 ((f i).ma : Int)) ∧ W.cell? ⟨b, off + i * 5 + 4, none⟩ = some (.bool (f i).di) ∧
  (Lit.int .i64 (f i).wh).wf = true ∧ (f i).gl < 65536 ∧ (f i).ma < 65536
theorem st_cells {w : World} {r : Nat} {x : Stp} (h : RowT 31 w r (stC x)) : w.cell? ⟨r, 0, none⟩ = some (.bool x.fo) ∧ w.cell? ⟨r, 1, none⟩ = some (.int .i64 x.wh) ∧ w.cell? ⟨r, 2, none⟩ = some (.int .u16 (x.gl : Int)) ∧ w.cell? ⟨r, 3, none⟩ = some (.int .u16 (x.ma : Int)) ∧ w.cell? ⟨r, 4, none⟩ = some (.bool x.di) :=
  ⟨h.c 0 _ rfl, h.c 1 _ rfl, h.c 2 _ rfl, h.c 3 _ rfl, h.c 4 _ rfl⟩
theorem cell_onB {B : Nat} {w w' : World} {g o : Nat} {v : Value} (hb : Below B w w') (hB : g < B) (h : w.cell? ⟨g, o, none⟩ = some v) : w'.cell? ⟨g, o, none⟩ = some v := (hb.cell (p := ⟨g, o, none⟩) hB).trans h
set_option maxRecDepth 100000 in
set_option maxHeartbeats 4000000 in
theorem row (S : GlobalSpec At) (t : Nat) (ht : t < 65536) (num : Int) (hnum : (Lit.int .i64 num).wf = true) (s : Option Addr) (len cap : Nat) (f : Nat → Stp) (hl : len ≤ 100) (W : World) (h1 : Hid (StepRow W s len f)) :
    Calls Try.prog 3 #[.slice s len cap, .int .u16 (t : Int), .int .i64 num] W fun e w' => e = .returned (.bool true) ∧ Below W.heap.size W w' := by
  have hk := known11_any S W
  have IsA := S.is
  have IsB := rgIs
  have BT : Hid (t < 65536) := ht
  have BN : Hid ((Lit.int .i64 num).wf = true) := hnum
  have d1 : ¬ 100 < len := by omega
  clear ht hl hnum
  go_enter Try.func3, Try.ntmps3
  go_wp2_with fail
  refine hk.mono ?_
  rintro e w1 ⟨rfl, hb1⟩
  have hA : Hid (Below W.heap.size W w1) := hb1
  clear hk hb1
  go_wp2_with fail
  refine (Ob.own_new (B := W.heap.size) (S.new _) hA.out.size).mono ?_
  rintro e w' ⟨p, rfl, O', hb'⟩
  replace hA : Hid (Below W.heap.size W w') := hA.out.trans hb'
  have OB : Hid (Ob.Own At W.heap.size w' p (.no)) := O'
  clear O' hb'
  have TB : Hid (Ob.Two At RgAt W.heap.size (w'.alloc (.cells (rgC 0 0 0 0 0 0) 29)) p .no w'.heap.size .no) := beside IsA (rg_new _) OB.out hA.out.size
  have hA2 : Hid (Below W.heap.size W (w'.alloc (.cells (rgC 0 0 0 0 0 0) 29))) := hA.out.alloc hA.out.size _
  clear OB
  go_wp2_with fail
  go_loopw [8, 9] (fun v i wr => ∃ (k : Nat) (m : Gq.St) (q : Nat), k ≤ len ∧ v = Ob.ptr q ∧ i = .int .i64 k ∧ Hid (Ob.Two At RgAt W.heap.size wr p m q m) ∧ Hid (Below W.heap.size W wr)) (fun _ i _ => len - (intOf i).toNat)
  case atStart => exact ⟨0, _, _, Nat.zero_le _, rfl, rfl, TB, hA2⟩
  case round =>
    clear TB hA hA2
    obtain ⟨k, m, q, hk, rfl, rfl, TB, hA⟩ := hrel
    by_cases hlt : k < len
    · obtain h0 | ⟨b1, o1, rfl, hc1⟩ := h1.out
      · omega
      obtain ⟨a0, a1, a2, a3, a4, u1, u2, u3⟩ := hc1 k hlt
      have hbl := block_lt_of_cell a0
      have r0 := cell_onB hA.out hbl a0
      have r1 := cell_onB hA.out hbl a1
      have r2 := cell_onB hA.out hbl a2
      have r3 := cell_onB hA.out hbl a3
      have r4 := cell_onB hA.out hbl a4
      have r0' : ∀ o, (wr.alloc o).cell? ⟨b1, o1 + k * 5, none⟩ = some (.bool (f k).fo) := fun o => cell_onB ((Below.refl _ _).alloc (Nat.le_refl _) o) (block_lt_of_cell r0) r0
      have HU : Hid ((Lit.int .i64 (f k).wh).wf = true ∧ (f k).gl < 65536 ∧ (f k).ma < 65536) := ⟨u1, u2, u3⟩
      clear hc1 h1 a0 a1 a2 a3 a4 u1 u2 u3 hbl
      generalize f k = x at *
      have TR : Hid (Ob.Three At RgAt StAt W.heap.size (wr.alloc (.cells (stC x) 31)) p m q m wr.heap.size x) := third IsA IsB ⟨rfl, RowT.new _ _ _, trivial⟩ TB.out hA.out.size
      have hA3 : Hid (Below W.heap.size W (wr.alloc (.cells (stC x) 31))) := hA.out.alloc hA.out.size _
      obtain ⟨t0, t1, t2, t3, t4⟩ := st_cells TR.out.row
      have hcs : stC x = #[.bool x.fo, .int .i64 x.wh, .int .u16 (x.gl : Int), .int .u16 (x.ma : Int), .bool x.di] := rfl
      rw [hcs] at TR hA3 t0 t1 t2 t3 t4
      clear hcs
      obtain ⟨fo, wh, gl, ma, di⟩ := x
      dsimp only at *
      go_upto_if 41 with fail
      obtain ⟨wS, hwS⟩ : ∃ wS, wS = wr.alloc (.cells #[.bool fo, .int .i64 wh, .int .u16 (gl : Int), .int .u16 (ma : Int), .bool di] 31) := ⟨_, rfl⟩
      rw [← hwS] at TR hA3 t0 t1 t2 t3 t4 ⊢
      generalize wr.heap.size = gS at TR t0 t1 t2 t3 t4 ⊢
      clear hwS r0 r1 r2 r3 r4 r0' TB hA
      have hA := hA3
      clear hA3
      go_cut [8] from 30 to 134 (fun v wx => ∃ (m' : Gq.St) (q' : Nat), v = Ob.ptr q' ∧ Hid (Ob.Two At RgAt W.heap.size wx p m' q' m') ∧ Hid (Below W.heap.size W wx))
      case first =>
        cases fo with
        | true =>
          go_wp2_with fail
          refine (Ob.three_turn IsB stIs (fun F h => S.forget _ _ F _ h) TR.out hA.out.size).mono ?_
          rintro e w' ⟨rfl, T', hb'⟩
          replace hA : Hid (Below W.heap.size W w') := hA.out.trans hb'
          replace TR : Hid (Ob.Three At RgAt StAt W.heap.size w' _ .no _ m _ _) := T'
          clear T' hb' t0 t1 t2 t3 t4
          have TR2 : Hid (Ob.Three At RgAt StAt W.heap.size (w'.alloc (.cells (rgC 0 0 0 0 0 0) 29)) p .no w'.heap.size .no gS _) := anew IsA stIs (rg_new _) TR.out hA.out.size
          have hA2 : Hid (Below W.heap.size W (w'.alloc (.cells (rgC 0 0 0 0 0 0) 29))) := hA.out.alloc hA.out.size _
          go_wp2
          go_meet
          case rel => exact ⟨_, _, rfl, TR2.out.pair, hA2⟩
        | false =>
          go_wp2_with fail
          refine (Ob.three_turn IsB stIs (fun F h => S.beat _ _ F _ wh gl ma di HU.out.1 HU.out.2.1 HU.out.2.2 h) TR.out hA.out.size).mono ?_
          rintro e w' ⟨rfl, T', hb'⟩
          replace hA : Hid (Below W.heap.size W w') := hA.out.trans hb'
          replace TR : Hid (Ob.Three At RgAt StAt W.heap.size w' _ (Gq.beat m wh gl ma di) _ m _ _) := T'
          clear T' hb' t0 t1 t2 t3 t4
          obtain ⟨t0, t1, t2, t3, t4⟩ := st_cells TR.out.row
          go_wp2_with fail
          refine (Ob.three_turn2 IsA stIs (fun F h => rg_beat _ _ F _ wh gl ma di HU.out.2.1 HU.out.2.2 h) TR.out hA.out.size).mono ?_
          rintro e w' ⟨rfl, T', hb'⟩
          replace hA : Hid (Below W.heap.size W w') := hA.out.trans hb'
          replace TR : Hid (Ob.Three At RgAt StAt W.heap.size w' _ (Gq.beat m wh gl ma di) _ (Gq.beat m wh gl ma di) _ _) := T'
          clear T' hb' t0 t1 t2 t3 t4
          go_wp2
          go_meet
          case rel => exact ⟨_, q, rfl, TR.out.pair, hA⟩
      case rest =>
        clear TR hA t0 t1 t2 t3 t4 HU
        obtain ⟨m', q', rfl, TB, hA⟩ := hcut
        go_wp2_with fail
        refine (Ob.three_copy IsA IsB (fun F h => S.copy _ _ F _ h) TB.out hA.out.size).mono ?_
        rintro e w' ⟨r, rfl, T', hb'⟩
        replace hA : Hid (Below W.heap.size W w') := hA.out.trans hb'
        have TR : Hid (Ob.Three At RgAt At W.heap.size w' p m' q' m' r m') := T'
        clear T' hb' TB
        go_wp2_with fail
        refine (Ob.three_turn3 IsA IsB (fun F h => S.beat _ _ F _ 9 1 2 true rfl (by decide) (by decide) h) TR.out hA.out.size).mono ?_
        rintro e w' ⟨rfl, T', hb'⟩
        replace hA : Hid (Below W.heap.size W w') := hA.out.trans hb'
        have TB : Hid (Ob.Two At RgAt W.heap.size w' p m' q' m') := T'.pair
        clear T' hb' TR
        go_wp2_with fail
        refine (Ob.two_look IsA IsB (fun F h => S.lens _ _ F _ h) TB.out hA.out.size).mono ?_
        rintro e w' ⟨rfl, T', hb'⟩
        replace TB : Hid (Ob.Two At RgAt W.heap.size w' _ _ _ _) := T'
        replace hA : Hid (Below W.heap.size W w') := hA.out.trans hb'
        clear T' hb'
        go_wp2_with fail
        refine (Ob.two_look2 IsA IsB (fun F h => rg_lens _ _ F _ h) TB.out hA.out.size).mono ?_
        rintro e w' ⟨rfl, T', hb'⟩
        replace TB : Hid (Ob.Two At RgAt W.heap.size w' _ _ _ _) := T'
        replace hA : Hid (Below W.heap.size W w') := hA.out.trans hb'
        clear T' hb'
        go_wp2_with fail
        refine (Ob.two_look IsA IsB (fun F h => S.rate _ _ F _ num BN.out h) TB.out hA.out.size).mono ?_
        rintro e w' ⟨rfl, T', hb'⟩
        replace TB : Hid (Ob.Two At RgAt W.heap.size w' _ _ _ _) := T'
        replace hA : Hid (Below W.heap.size W w') := hA.out.trans hb'
        clear T' hb'
        go_wp2_with fail
        refine (Ob.two_look2 IsA IsB (fun F h => rg_rate _ _ F _ num h) TB.out hA.out.size).mono ?_
        rintro e w' ⟨rfl, T', hb'⟩
        replace TB : Hid (Ob.Two At RgAt W.heap.size w' _ _ _ _) := T'
        replace hA : Hid (Below W.heap.size W w') := hA.out.trans hb'
        clear T' hb'
        have HT1 : Hid (∀ w2, Below w'.heap.size w' w2 → Calls Try.prog 18 #[Ob.ptr p, .int .u16 (t : Int)] w2 fun e w'' => e = .returned (.int .u16 (Gq.tell m' t : Int)) ∧ Below w2.heap.size w2 w'') := fun w2 hb => by
          obtain ⟨F, h, _⟩ := (TB.out.on IsA IsB hb).fst
          exact S.tell _ _ F _ t BT.out h
        have HT2 : Hid (∀ w2, Below w'.heap.size w' w2 → Calls Try.prog 19 #[Ob.ptr q', .int .u16 (t : Int)] w2 fun e w'' => e = .returned (.int .u16 (Gq.tell m' t : Int)) ∧ Below w2.heap.size w2 w'') := fun w2 hb => by
          obtain ⟨F, h, _⟩ := (TB.out.on IsA IsB hb).snd
          exact rg_tell _ _ F _ t BT.out h
        have HSt : Hid (∀ w2, Below w'.heap.size w' w2 → Calls Try.prog 20 #[Ob.ptr p] w2 fun e w'' => e = .returned (.int .i64 (Gq.steady m' : Int)) ∧ Below w2.heap.size w2 w'') := fun w2 hb => by
          obtain ⟨F, h, _⟩ := (TB.out.on IsA IsB hb).fst
          exact S.steady _ _ F _ h
        have HRd : Hid (∀ w2, Below w'.heap.size w' w2 → w2.cell? ⟨q', 5, none⟩ = some (.int .i64 (Gq.steady m' : Int))) := fun w2 hb => by
          obtain ⟨F, h, _⟩ := (TB.out.on IsA IsB hb).snd
          exact h.steady
        generalize Gq.tell m' t = v1 at HT1 HT2 ⊢
        generalize Gq.steady m' = v2 at HSt HRd ⊢
        generalize Gq.la m' = v3
        generalize Gq.lb m' = v4
        generalize Gq.lo m' = v5
        generalize Gq.rate m' num = v6
        generalize Gq.can m' num = v7
        go_wp2_with fail
        refine Lw.wp_region_quiet_below (by kernel_rfl) (by kernel_rfl) ?_
        repeat (first
          | go_big_quiet_skip
          | (go_big_quiet_want; go_big_quiet_op; go_big_quiet_on)
          | (go_big_quiet_want; go_big_quiet_op; apply Exists.intro; refine ⟨fun _ hb' => ?_, ?_⟩; (first
            | exact Lw.val_rfl _
            | (go_at_call 18; exact Lw.calls_below hb' (HT1.out _ hb'))
            | (go_at_call 19; exact Lw.calls_below hb' (HT2.out _ hb'))
            | (go_at_call 20; exact Lw.calls_below hb' (HSt.out _ hb'))
            | (simp [go_sem, HRd.out _ hb']; rfl)); go_big_quiet_on))
        refine wpQuiet_nil ?_
        intro w9 hb9
        replace hA : Hid (Below W.heap.size W w9) := hA.out.trans (hb9.mono hA.out.size)
        replace TB : Hid (Ob.Two At RgAt W.heap.size w9 p m' q' m') := TB.out.on IsA IsB hb9
        clear hb9 HT1 HT2 HSt HRd
        go_wp2
        exact ⟨⟨k + 1, m', q', by omega, rfl, by simp, TB, hA⟩, by simp [intOf]; omega⟩
    · have hkl : k = len := by omega
      go_wp2
      go_ret
      exact ⟨rfl, hA.out⟩
set_option maxRecDepth 100000 in
set_option maxHeartbeats 1000000 in
theorem long (S : GlobalSpec At) (t num : Int) (s : Option Addr) (len cap : Nat) (hl : 100 < len) (W : World) :
    Calls Try.prog 3 #[.slice s len cap, .int .u16 t, .int .i64 num] W fun e w' => e = .returned (.bool true) ∧ Below W.heap.size W w' := by
  have hk := known11_any S W
  go_enter Try.func3, Try.ntmps3
  go_wp2_with fail
  refine hk.mono ?_
  rintro e w1 ⟨rfl, hb1⟩
  have hA : Hid (Below W.heap.size W w1) := hb1
  clear hk hb1
  go_wp2
  go_ret
  exact ⟨rfl, hA.out⟩
theorem stepFlat : Fo.flat Try.prog 3 31 = some [(0, .bool), (1, .int .i64), (2, .int .u16), (3, .int .u16), (4, .bool)] := by kernel_rfl
theorem u16_nat {x : Int} (h : (Lit.int .u16 x).wf = true) : ∃ n : Nat, x = (n : Int) ∧ n < 65536 := by
  obtain ⟨h1, h2⟩ := bounds_u16 h
  obtain ⟨n, rfl⟩ := Int.eq_ofNat_of_zero_le h1
  exact ⟨n, rfl, by omega⟩
theorem steps_of_trod {H : Type} {enc : TypeId × Value → H} {w : World} {s : Option Addr} {len cap : Nat} {d : DataW H} {p : List MemPlace} (h : DataW.Trod enc Try.prog w 0 (fun _ => true) true 22 (.slice s len cap) d p) : ∃ f, StepRow w s len f := by
  obtain ⟨_, h0 | ⟨b, off, rfl, hc⟩⟩ := Fo.flat_rows 3 .bool [(1, .int .i64), (2, .int .u16), (3, .int .u16), (4, .bool)] 5 Try.underlying22 stepFlat (by kernel_rfl) h
  · exact ⟨fun _ => ⟨false, 0, 0, 0, false⟩, Or.inl h0⟩
  · have key : ∀ i, ∃ x : Stp, i < len → w.cell? ⟨b, off + i * 5, none⟩ = some (.bool x.fo) ∧ w.cell? ⟨b, off + i * 5 + 1, none⟩ = some (.int .i64 x.wh) ∧ w.cell? ⟨b, off + i * 5 + 2, none⟩ = some (.int .u16 (x.gl : Int)) ∧ w.cell? ⟨b, off + i * 5 + 3, none⟩ = some (.int .u16 (x.ma : Int)) ∧ w.cell? ⟨b, off + i * 5 + 4, none⟩ = some (.bool x.di) ∧ (Lit.int .i64 x.wh).wf = true ∧ x.gl < 65536 ∧ x.ma < 65536 := fun i => by
      by_cases hi : i < len
      · have hq := hc i hi
        obtain ⟨v0, c0, n0, rfl⟩ := hq (0, .bool) (by simp)
        obtain ⟨v1, c1, n1, rfl, w1⟩ := hq (1, .int .i64) (by simp)
        obtain ⟨v2, c2, n2, rfl, w2⟩ := hq (2, .int .u16) (by simp)
        obtain ⟨v3, c3, n3, rfl, w3⟩ := hq (3, .int .u16) (by simp)
        obtain ⟨v4, c4, n4, rfl⟩ := hq (4, .bool) (by simp)
        obtain ⟨N2, rfl, hN2⟩ := u16_nat w2
        obtain ⟨N3, rfl, hN3⟩ := u16_nat w3
        refine ⟨⟨n0, n1, N2, N3, n4⟩, fun _ => ?_⟩
        simp only [← Nat.add_assoc] at c0 c1 c2 c3 c4
        exact ⟨c0, c1, c2, c3, c4, w1, hN2, hN3⟩
      · exact ⟨⟨false, 0, 0, 0, false⟩, fun k => absurd k hi⟩
    obtain ⟨F, hF⟩ := Classical.axiomOfChoice key
    exact ⟨F, Or.inr ⟨b, off, rfl, hF⟩⟩
theorem walkA (S : GlobalSpec At) (s0 : Option Addr) (len0 cap0 : Nat) {w : World} (w0 : ∃ f, StepRow w s0 len0 f) (a1 : Int) (w1 : (Lit.int .u16 a1).wf = true) (a2 : Int) (w2 : (Lit.int .i64 a2).wf = true) (w' : World) (hw : w' = w) :
    Calls Try.prog 3 #[.slice s0 len0 cap0, .int .u16 a1, .int .i64 a2] w' fun e w'' => e = .returned (.bool true) ∧ Below w'.heap.size w' w'' := by
  subst hw
  obtain ⟨f, hR⟩ := w0
  obtain ⟨t, rfl, ht⟩ := u16_nat w1
  by_cases h : 100 < len0
  · exact long S _ _ _ _ _ h _
  · exact row S t ht a2 w2 _ _ _ f (by omega) _ hR
end Go.Proofs.Ytpdeimnjmhgdgaa.globalPlays
