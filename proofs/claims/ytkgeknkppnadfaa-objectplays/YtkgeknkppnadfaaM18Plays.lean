/- ObjectPlays: of every slice of at most twelve messages, node and slice of at most forty steps (others are let by): every row of messages sent, confirmed, come: what each tells; behind each what is there of each message; no condition. -/
import Derived.Test.YtkgeknkppnadfaaZ18
import Derived.ProofKit
import Derived.OpenShut
import Derived.Deep.CutBlock
namespace Go.Proofs.Ytkgeknkppnadfaa.objectPlays
open Go.ChangeShapes Go.WideShapes Go.ChangeAt Go.RowKit
set_option linter.unusedVariables false
variable {Q : World → Prop} {At : World → Ob.A Q18.St}
set_option maxRecDepth 100000 in
set_option maxHeartbeats 8000000 in
theorem walkA (hQ : ∀ w w', Q w → Below w.heap.size w w' → Q w') (S : ObjectSpec Q At) (W : World) (hW : Q W) (s0 : Option Addr) (len0 cap0 : Nat) (l : List Mx.Msg) (hl : l.length = len0) (hli : LI W s0 cap0 len0 (l.flatMap mC2)) (a1 : Int) (w1_ : (Lit.int .i64 a1).wf = true) (s2 : Option Addr) (len2 cap2 : Nat) (hin : ∃ wh ms ds, StepRow18 W s2 len2 wh ms ds) : Calls Try.prog 3 #[.slice s0 len0 cap0, .int .i64 a1, .slice s2 len2 cap2] W fun e w' => e = .returned (.bool true) ∧ Below W.heap.size W w' := by
  go_enter Try.func3, Try.ntmps3
  go_wp2_with fail
  refine (known18_any hQ S W hW).mono ?_
  rintro e w1 ⟨rfl, hb⟩
  have HB : Hid (Below W.heap.size W w1) := hb
  clear hb
  obtain ⟨wh, ms, ds, hrow⟩ := hin
  by_cases h12 : 12 < len0
  · have h12i : (12 : Int) < (len0 : Int) := by omega
    have d12 : decide ((12 : Int) < (len0 : Int)) = true := decide_eq_true h12i
    clear hrow hli hl
    go_wp2
    go_ret
    exact ⟨rfl, HB.out⟩
  have h12i : ¬ ((12 : Int) < (len0 : Int)) := by omega
  have d12 : decide ((12 : Int) < (len0 : Int)) = false := decide_eq_false h12i
  by_cases h40 : 40 < len2
  · have h40i : (40 : Int) < (len2 : Int) := by omega
    have d40 : decide ((40 : Int) < (len2 : Int)) = true := decide_eq_true h40i
    clear hrow hli hl
    go_wp2
    go_ret
    exact ⟨rfl, HB.out⟩
  have h40i : ¬ ((40 : Int) < (len2 : Int)) := by omega
  have d40 : decide ((40 : Int) < (len2 : Int)) = false := decide_eq_false h40i
  have HN : Hid (len0 ≤ 12 ∧ len2 ≤ 40) := ⟨by omega, by omega⟩
  have hal : Below w1.heap.size w1 (w1.alloc (.cells #[.int .i64 0, .int .i64 0, .int .i64 0, .int .i64 0, .int .i64 0, .int .i64 0, .int .i64 0, .int .u32 0, .slice none 0 0, .slice s0 len0 cap0, .slice none 0 0] 29)) := (Below.refl _ _).alloc (Nat.le_refl _) _
  have HB0 : Hid (Below W.heap.size W (w1.alloc (.cells #[.int .i64 0, .int .i64 0, .int .i64 0, .int .i64 0, .int .i64 0, .int .i64 0, .int .i64 0, .int .u32 0, .slice none 0 0, .slice s0 len0 cap0, .slice none 0 0] 29))) := HB.out.trans (hal.mono HB.out.size)
  have HQ : Hid (∀ w, Below (w1.alloc (.cells #[.int .i64 0, .int .i64 0, .int .i64 0, .int .i64 0, .int .i64 0, .int .i64 0, .int .i64 0, .int .u32 0, .slice none 0 0, .slice s0 len0 cap0, .slice none 0 0] 29)).heap.size (w1.alloc (.cells #[.int .i64 0, .int .i64 0, .int .i64 0, .int .i64 0, .int .i64 0, .int .i64 0, .int .i64 0, .int .u32 0, .slice none 0 0, .slice s0 len0 cap0, .slice none 0 0] 29)) w → Q w) := fun w hb => hQ _ w (hQ W _ hW HB0.out) hb
  have HRm : Hid (RowT 29 (w1.alloc (.cells #[.int .i64 0, .int .i64 0, .int .i64 0, .int .i64 0, .int .i64 0, .int .i64 0, .int .i64 0, .int .u32 0, .slice none 0 0, .slice s0 len0 cap0, .slice none 0 0] 29)) w1.heap.size #[.int .i64 0, .int .i64 0, .int .i64 0, .int .i64 0, .int .i64 0, .int .i64 0, .int .i64 0, .int .u32 0, .slice none 0 0, .slice s0 len0 cap0, .slice none 0 0]) := RowT.new _ _ _
  have HM : Hid (MIn (w1.alloc (.cells #[.int .i64 0, .int .i64 0, .int .i64 0, .int .i64 0, .int .i64 0, .int .i64 0, .int .i64 0, .int .u32 0, .slice none 0 0, .slice s0 len0 cap0, .slice none 0 0] 29)) { Mx.nil0 with messages := l } ⟨none, 0, s0, cap0, none, 0⟩) := ⟨⟨Nat.le_refl _, Nat.zero_le _, Or.inl rfl⟩, by show LI _ s0 cap0 l.length (l.flatMap mC2); rw [hl]; exact hli.on HB0.out, ⟨Nat.le_refl _, Nat.zero_le _, Or.inl rfl⟩⟩
  have HEl : Hid (∀ i, i < len2 → ∃ b off, s2 = some ⟨b, off, none⟩ ∧ (∀ w', Below (w1.alloc (.cells #[.int .i64 0, .int .i64 0, .int .i64 0, .int .i64 0, .int .i64 0, .int .i64 0, .int .i64 0, .int .u32 0, .slice none 0 0, .slice s0 len0 cap0, .slice none 0 0] 29)).heap.size (w1.alloc (.cells #[.int .i64 0, .int .i64 0, .int .i64 0, .int .i64 0, .int .i64 0, .int .i64 0, .int .i64 0, .int .u32 0, .slice none 0 0, .slice s0 len0 cap0, .slice none 0 0] 29)) w' → w'.cell? ⟨b, off + i * 3, none⟩ = some (.int .i64 (wh i)) ∧ w'.cell? ⟨b, off + i * 3 + 1, none⟩ = some (.int .i64 (ms i)) ∧ w'.cell? ⟨b, off + i * 3 + 2, none⟩ = some (.string (ds i))) ∧ (Lit.int .i64 (wh i)).wf = true ∧ (Lit.int .i64 (ms i)).wf = true) := fun i hi => by
    rcases hrow with h0 | ⟨b, off, hs, hc⟩
    · omega
    · obtain ⟨c1, c2, c3, w1', w2'⟩ := hc i hi
      have hb := cell_lt17 c1
      refine ⟨b, off, hs, fun w' hbl => ?_, w1', w2'⟩
      have hbw := HB0.out.trans (hbl.mono HB0.out.size)
      exact ⟨(hbw.cell (p := ⟨b, off + i * 3, none⟩) hb).trans c1, (hbw.cell (p := ⟨b, off + i * 3 + 1, none⟩) hb).trans c2, (hbw.cell (p := ⟨b, off + i * 3 + 2, none⟩) hb).trans c3⟩
  have HSm : Hid (Mx.Small { Mx.nil0 with messages := l }) := ⟨Nat.zero_le _, by show l.length ≤ 1000; omega, Nat.zero_le _⟩
  have HLl : Hid (l.length = len0) := hl
  have HWw : Hid ((Lit.int .i64 a1).wf = true) := w1_
  clear hal hrow hli hl hQ hW HB h12 h40 w1_
  go_upto_region 6 with fail
  generalize w1.alloc (.cells #[.int .i64 0, .int .i64 0, .int .i64 0, .int .i64 0, .int .i64 0, .int .i64 0, .int .i64 0, .int .u32 0, .slice none 0 0, .slice s0 len0 cap0, .slice none 0 0] 29) = V at HB0 HQ HRm HM HEl ⊢
  generalize w1.heap.size = qm at HRm ⊢
  have HN1 : Hid (∀ w, Below V.heap.size V w → Calls Try.prog 8 #[.agg #[.int .i64 0, .int .i64 0, .int .i64 0, .int .i64 0, .int .i64 0, .int .i64 0, .int .i64 0, .int .u32 0, .slice none 0 0, .slice s0 len0 cap0, .slice none 0 0], .int .i64 a1] w fun e w' => ∃ V1 p, e = .returned (Ob.ptr p) ∧ Below w.heap.size w V1 ∧ Oq.O1 (At V1) V1 w' p (Q18.mk l a1) []) := fun w hb => by
    have h := S.new V w { Mx.nil0 with messages := l } ⟨none, 0, s0, cap0, none, 0⟩ a1 (HQ.out w hb) hb HM.out HSm.out HWw.out
    have e : mV { Mx.nil0 with messages := l } ⟨none, 0, s0, cap0, none, 0⟩ = .agg #[.int .i64 0, .int .i64 0, .int .i64 0, .int .i64 0, .int .i64 0, .int .i64 0, .int .i64 0, .int .u32 0, .slice none 0 0, .slice s0 len0 cap0, .slice none 0 0] := by unfold mV mCs; show Value.agg #[_, _, _, _, _, _, _, _, _, .slice s0 l.length cap0, _] = _; rw [HLl.out]; rfl
    rw [e] at h
    exact Oq.O1.makeV h
  have HN2 : Hid (∀ V1 w p, Below V.heap.size V V1 → Oq.O1 (At V1) V1 w p (Q18.mk l a1) [] → Calls Try.prog 9 #[.agg #[.int .i64 0, .int .i64 0, .int .i64 0, .int .i64 0, .int .i64 0, .int .i64 0, .int .i64 0, .int .u32 0, .slice none 0 0, .slice s0 len0 cap0, .slice none 0 0], .int .i64 a1] w fun e w' => ∃ q, e = .returned (Ob.ptr q) ∧ Oq.O2 (At V1) (RoAt V1) V1 w' p (Q18.mk l a1) q (Q18.mk l a1) []) := fun V1 w p hV h => by
    have h2 := ro_new V1 w { Mx.nil0 with messages := l } ⟨none, 0, s0, cap0, none, 0⟩ a1 h.bel (HM.out.on hV) HSm.out
    have e : mV { Mx.nil0 with messages := l } ⟨none, 0, s0, cap0, none, 0⟩ = .agg #[.int .i64 0, .int .i64 0, .int .i64 0, .int .i64 0, .int .i64 0, .int .i64 0, .int .i64 0, .int .u32 0, .slice none 0 0, .slice s0 len0 cap0, .slice none 0 0] := by unfold mV mCs; show Value.agg #[_, _, _, _, _, _, _, _, _, .slice s0 l.length cap0, _] = _; rw [HLl.out]; rfl
    rw [e] at h2
    exact h.make2 (S.is V1) (fun F hF => h2)
  clear HM HSm HWw HLl
  refine wp_region_held_drew (S := fun w' => RowT 29 w' qm #[.int .i64 0, .int .i64 0, .int .i64 0, .int .i64 0, .int .i64 0, .int .i64 0, .int .i64 0, .int .u32 0, .slice none 0 0, .slice s0 len0 cap0, .slice none 0 0]) (by kernel_rfl) (HRm.out.on (Below.refl _ _).drew) (fun hHeld => ?_)
  have hd0 : Below V.heap.size V V.drew := (Below.refl _ _).drew
  have HRm2 : Hid (∀ w', Below V.heap.size V w' → RowT 29 w' qm #[.int .i64 0, .int .i64 0, .int .i64 0, .int .i64 0, .int .i64 0, .int .i64 0, .int .i64 0, .int .u32 0, .slice none 0 0, .slice s0 len0 cap0, .slice none 0 0]) := fun w' hb => HRm.out.on hb
  refine Hl.takeL (i := 0) (d := 36) (v := ?_) rfl (by kernel_rfl) (by kernel_rfl) (by kernel_rfl) (fun _ _ _ h => h) (by rfl) ?_ (by first | assumption | trivial) ?_
  rotate_left
  · intro w hSw; have hS0 : RowT 29 w qm #[.int .i64 0, .int .i64 0, .int .i64 0, .int .i64 0, .int .i64 0, .int .i64 0, .int .i64 0, .int .u32 0, .slice none 0 0, .slice s0 len0 cap0, .slice none 0 0] := hSw; have z0 := hS0.c 0 _ rfl; have z1 := hS0.c 1 _ rfl; have z2 := hS0.c 2 _ rfl; have z3 := hS0.c 3 _ rfl; have z4 := hS0.c 4 _ rfl; have z5 := hS0.c 5 _ rfl; have z6 := hS0.c 6 _ rfl; have z7 := hS0.c 7 _ rfl; have z8 := hS0.c 8 _ rfl; have z9 := hS0.c 9 _ rfl; have z10 := hS0.c 10 _ rfl; go_simp; (try with_reducible rfl)
  simp only [Act.put, List.setIfInBounds_toArray, List.set_cons_zero, List.set_cons_succ]
  refine Hl.takeL (i := 1) (d := 37) (v := ?_) rfl (by kernel_rfl) (by kernel_rfl) (by kernel_rfl) (fun _ _ _ h => h) (by rfl) ?_ (by first | assumption | trivial) ?_
  rotate_left
  · intro w hSw; skip; go_simp; (try with_reducible rfl)
  simp only [Act.put, List.setIfInBounds_toArray, List.set_cons_zero, List.set_cons_succ]
  refine Hl.takeL (i := 3) (d := 39) (v := ?_) rfl (by kernel_rfl) (by kernel_rfl) (by kernel_rfl) (fun _ _ _ h => h) (by rfl) ?_ (by first | assumption | trivial) ?_
  rotate_left
  · intro w hSw; have hS0 : RowT 29 w qm #[.int .i64 0, .int .i64 0, .int .i64 0, .int .i64 0, .int .i64 0, .int .i64 0, .int .i64 0, .int .u32 0, .slice none 0 0, .slice s0 len0 cap0, .slice none 0 0] := hSw; have z0 := hS0.c 0 _ rfl; have z1 := hS0.c 1 _ rfl; have z2 := hS0.c 2 _ rfl; have z3 := hS0.c 3 _ rfl; have z4 := hS0.c 4 _ rfl; have z5 := hS0.c 5 _ rfl; have z6 := hS0.c 6 _ rfl; have z7 := hS0.c 7 _ rfl; have z8 := hS0.c 8 _ rfl; have z9 := hS0.c 9 _ rfl; have z10 := hS0.c 10 _ rfl; go_simp; (try with_reducible rfl)
  simp only [Act.put, List.setIfInBounds_toArray, List.set_cons_zero, List.set_cons_succ]
  refine Hl.takeL (i := 4) (d := 40) (v := ?_) rfl (by kernel_rfl) (by kernel_rfl) (by kernel_rfl) (fun _ _ _ h => h) (by rfl) ?_ (by first | assumption | trivial) ?_
  rotate_left
  · intro w hSw; skip; go_simp; (try with_reducible rfl)
  simp only [Act.put, List.setIfInBounds_toArray, List.set_cons_zero, List.set_cons_succ]
  refine Hl.consL (i := 2) rfl (by kernel_rfl) (fun K' hK' => ?_)
  go_simp
  refine (HN1.out _ hd0).mono ?_
  rintro e w2 ⟨V, p, rfl, hV0, hq⟩
  have hV1 := hd0.trans (hV0.mono hd0.size)
  replace HB0 : Hid (Below W.heap.size W V) := HB0.out.trans (hV1.mono HB0.out.size)
  replace HQ : Hid (∀ w, Below V.heap.size V w → Q w) := fun w hb => HQ.out w (hV1.trans (hb.mono hV1.size))
  replace HRm2 : Hid (∀ w', Below V.heap.size V w' → RowT 29 w' qm #[.int .i64 0, .int .i64 0, .int .i64 0, .int .i64 0, .int .i64 0, .int .i64 0, .int .i64 0, .int .u32 0, .slice none 0 0, .slice s0 len0 cap0, .slice none 0 0]) := fun w' hb => HRm2.out w' (hV1.trans (hb.mono hV1.size))
  replace HEl : Hid (∀ i, i < len2 → ∃ b off, s2 = some ⟨b, off, none⟩ ∧ (∀ w', Below V.heap.size V w' → w'.cell? ⟨b, off + i * 3, none⟩ = some (.int .i64 (wh i)) ∧ w'.cell? ⟨b, off + i * 3 + 1, none⟩ = some (.int .i64 (ms i)) ∧ w'.cell? ⟨b, off + i * 3 + 2, none⟩ = some (.string (ds i))) ∧ (Lit.int .i64 (wh i)).wf = true ∧ (Lit.int .i64 (ms i)).wf = true) := fun i hi => by
    obtain ⟨b, off, h0, h1, h2⟩ := HEl.out i hi
    exact ⟨b, off, h0, fun w' hb => h1 w' (hV1.trans (hb.mono hV1.size)), h2⟩
  have HN3 := HN2.out V
  replace HN2 : Hid (∀ w p, Oq.O1 (At V) V w p (Q18.mk l a1) [] → _) := fun w p h => HN3 w p hV1 h
  clear HN3
  have HO : Hid (Oq.O1 (At V) V w2 p (Q18.mk l a1) []) := hq
  clear hq hHeld HN1 hd0 hV0 hV1
  try go_wp2_with fail
  refine hK'.out _ _ (HRm2.out _ HO.out.bel) (fun hHeld => ?_)
  clear hK' K'
  refine Hl.consL (i := 5) rfl (by kernel_rfl) (fun K' hK' => ?_)
  go_simp
  refine (HN2.out _ _ HO.out).mono ?_
  rintro e w3 ⟨q, rfl, hq⟩
  have HV : Hid (Oq.O2 (At V) (RoAt V) V w3 p (Q18.mk l a1) q (Q18.mk l a1) []) := hq
  clear hq hHeld HN2 HO
  try go_wp2_with fail
  refine hK'.out _ _ (HRm2.out _ HV.out.bel) (fun hHeld => ?_)
  clear hK' K'
  refine Hl.consL (i := 6) rfl (by kernel_rfl) (fun K' hK' => ?_)
  go_simp
  refine hK'.out _ _ (HRm2.out _ HV.out.bel) (fun hHeld2 => ?_)
  clear hK' K' hHeld2
  refine Hl.consL (i := 7) rfl (by kernel_rfl) (fun K' hK' => ?_)
  go_simp
  refine hK'.out _ _ (HRm2.out _ HV.out.bel) (fun hHeld2 => ?_)
  clear hK' K' hHeld2 hHeld
  refine wpAnyH_done (by kernel_rfl) ?_ _
  clear HRm HRm2
  generalize Q18.mk l a1 = s00 at HV
  go_wp2_with fail
  go_loopw [10, 11, 12, 13, 14, 15, 16, 17, 18, 19, 20, 21, 22, 23] (fun vi _a11 _a12 _a13 _a14 _a15 _a16 _a17 _a18 _a19 _a20 _a21 _a22 _a23 wr => ∃ (i : Nat) (s : Q18.St), i ≤ len2 ∧ vi = .int .i64 (i : Int) ∧ Hid (Oq.O2 (At V) (RoAt V) V wr p s q s [])) (fun vi _ _ _ _ _ _ _ _ _ _ _ _ _ _ => len2 - (intOf vi).toNat)
  case atStart => exact ⟨0, _, Nat.zero_le _, rfl, HV⟩
  case round =>
    clear HV
    obtain ⟨i, s, hi, rfl, HV⟩ := hrel
    by_cases hil : i < len2
    · obtain ⟨b, off, hs2, hc, hw1, hw2⟩ := HEl.out i hil
      obtain ⟨c0, c1, c2⟩ := hc wr HV.out.bel
      have ii : (i : Int) < (len2 : Int) := by omega
      have ib : (i : Int) < 1000 := by have := HN.out; omega
      have HMw : Hid ((Lit.int .i64 (ms i)).wf = true) := hw2
      replace HV : Hid (Oq.O2 (At V) (RoAt V) V (wr.alloc (.cells #[.int .i64 (wh i), .int .i64 (ms i), .string (ds i)] 35)) p s q s [(wr.heap.size, .cells #[.int .i64 (wh i), .int .i64 (ms i), .string (ds i)] 35)]) := HV.out.al (S.is V) (roIs V) _
      clear hw1 hw2 hc HEl
      subst hs2
      go_upto_region 11 with fail
      clear c0 c1 c2
      generalize wr.alloc (.cells #[.int .i64 (wh i), .int .i64 (ms i), .string (ds i)] 35) = v at HV ⊢
      generalize wr.heap.size = gs at HV ⊢
      generalize hwh : wh i = wx at HV ⊢
      generalize hms : ms i = mx at HV HMw ⊢
      generalize hds : ds i = dx at HV ⊢
      clear hwh hms hds
      have x2 := Oq.row_cell (k := 2) (HV.out.rows _ List.mem_cons_self) rfl
      dsimp only at x2
      by_cases h40 : 40 < dx.size
      · have h40i : (40 : Int) < (dx.size : Int) := by omega
        have HBz : Hid (Below W.heap.size W v) := HB0.out.trans (HV.out.bel.mono HB0.out.size)
        clear HV
        go_wp2
        go_ret
        exact ⟨rfl, HBz.out⟩
      have h40i : ¬ ((40 : Int) < (dx.size : Int)) := by omega
      clear h40
      go_wp2_with fail
      refine (Oq.O2.copy3 (roIs V) (fun F hF => S.copy V _ p F s (HQ.out _ HV.out.bel) HV.out.bel hF) HV.out).mono ?_
      rintro e w4 ⟨r, rfl, hq⟩
      have HT : Hid (Oq.O3 (At V) (RoAt V) (At V) V w4 p s q s r s [(gs, .cells #[.int .i64 wx, .int .i64 mx, .string dx] 35)]) := hq
      clear hq HV x2
      go_upto_block 2 with fail
      have x0 := Oq.row_cell (k := 0) (HT.out.rows _ List.mem_cons_self) rfl
      have x1 := Oq.row_cell (k := 1) (HT.out.rows _ List.mem_cons_self) rfl
      have x2 := Oq.row_cell (k := 2) (HT.out.rows _ List.mem_cons_self) rfl
      dsimp only at x0 x1 x2
      go_cut [] from 42 to 195 (fun wy => ∃ s' : Q18.St, Hid (Oq.O3 (At V) (RoAt V) (At V) V wy p s' q s' r s [(gs, .cells #[.int .i64 wx, .int .i64 mx, .string dx] 35)]))
      case first =>
        by_cases hle : wx ≤ 2
        · go_upto_region 17 with fail
          clear x0 x1 x2
          have HP1 : Hid (∀ w R, Oq.O3 (At V) (RoAt V) (At V) V w p s q s r s R → Calls Try.prog 11 #[Ob.ptr p, .int .i64 mx, .string dx] w fun e w' => e = .returned (.int .i64 (Q18.sendE s mx dx)) ∧ Oq.O3 (At V) (RoAt V) (At V) V w' p (Q18.sendS s mx dx) q s r s R) := fun w R h => h.turn (roIs V) (S.is V) (fun F hF => S.send V w p F s mx dx (HQ.out _ h.bel) h.bel HMw.out hF)
          have HP2 : Hid (∀ w R s', Oq.O3 (At V) (RoAt V) (At V) V w p s' q s r s R → Calls Try.prog 12 #[Ob.ptr q, .int .i64 mx, .string dx] w fun e w' => e = .returned (.int .i64 (Q18.sendE s mx dx)) ∧ Oq.O3 (At V) (RoAt V) (At V) V w' p s' q (Q18.sendS s mx dx) r s R) := fun w R s' h => h.turn2 (S.is V) (S.is V) (fun F hF => ro_send V w q F s mx dx h.bel HMw.out hF)
          generalize Q18.sendE s mx dx = PE at HP1 HP2
          generalize Q18.sendS s mx dx = PS at HP1 HP2
          replace HT : Hid (Oq.O3 (At V) (RoAt V) (At V) V w4.drew p s q s r s [(gs, .cells #[.int .i64 wx, .int .i64 mx, .string dx] 35)]) := HT.out.on (S.is V) (roIs V) (S.is V) (Below.refl _ _).drew
          have HS : Hid (∀ w' : World, w'.heap[gs]? = some (.cells #[.int .i64 wx, .int .i64 mx, .string dx] 35) → w'.cell? ⟨gs, 1, none⟩ = some (.int .i64 mx) ∧ w'.cell? ⟨gs, 2, none⟩ = some (.string dx)) := fun w' h => ⟨Oq.row_cell (k := 1) h rfl, Oq.row_cell (k := 2) h rfl⟩
          refine wp_region_held_drew (S := fun w' => w'.heap[gs]? = some (.cells #[.int .i64 wx, .int .i64 mx, .string dx] 35)) (by kernel_rfl) (HT.out.rows _ List.mem_cons_self) (fun hHeld => ?_)
          generalize w4.drew = v5 at HT hHeld ⊢
          refine Hl.takeL (i := 0) (d := 74) (v := ?_) rfl (by kernel_rfl) (by kernel_rfl) (by kernel_rfl) (fun _ _ _ h => h) (by rfl) ?_ (by first | assumption | trivial) ?_
          rotate_left
          · intro w hSw; obtain ⟨q1, q2⟩ := HS.out w hSw; go_simp; (try with_reducible rfl)
          simp only [Act.put, List.setIfInBounds_toArray, List.set_cons_zero, List.set_cons_succ]
          refine Hl.takeL (i := 1) (d := 75) (v := ?_) rfl (by kernel_rfl) (by kernel_rfl) (by kernel_rfl) (fun _ _ _ h => h) (by rfl) ?_ (by first | assumption | trivial) ?_
          rotate_left
          · intro w hSw; obtain ⟨q1, q2⟩ := HS.out w hSw; go_simp; (try with_reducible rfl)
          simp only [Act.put, List.setIfInBounds_toArray, List.set_cons_zero, List.set_cons_succ]
          refine Hl.takeL (i := 2) (d := 76) (v := ?_) rfl (by kernel_rfl) (by kernel_rfl) (by kernel_rfl) (fun _ _ _ h => h) (by rfl) ?_ (by first | assumption | trivial) ?_
          rotate_left
          · intro w hSw; obtain ⟨q1, q2⟩ := HS.out w hSw; go_simp; (try with_reducible rfl)
          simp only [Act.put, List.setIfInBounds_toArray, List.set_cons_zero, List.set_cons_succ]
          refine Hl.takeL (i := 3) (d := 77) (v := ?_) rfl (by kernel_rfl) (by kernel_rfl) (by kernel_rfl) (fun _ _ _ h => h) (by rfl) ?_ (by first | assumption | trivial) ?_
          rotate_left
          · intro w hSw; obtain ⟨q1, q2⟩ := HS.out w hSw; go_simp; (try with_reducible rfl)
          simp only [Act.put, List.setIfInBounds_toArray, List.set_cons_zero, List.set_cons_succ]
          refine Hl.takeL (i := 4) (d := 78) (v := ?_) rfl (by kernel_rfl) (by kernel_rfl) (by kernel_rfl) (fun _ _ _ h => h) (by rfl) ?_ (by first | assumption | trivial) ?_
          rotate_left
          · intro w hSw; obtain ⟨q1, q2⟩ := HS.out w hSw; go_simp; (try with_reducible rfl)
          simp only [Act.put, List.setIfInBounds_toArray, List.set_cons_zero, List.set_cons_succ]
          refine Hl.takeL (i := 6) (d := 80) (v := ?_) rfl (by kernel_rfl) (by kernel_rfl) (by kernel_rfl) (fun _ _ _ h => h) (by rfl) ?_ (by first | assumption | trivial) ?_
          rotate_left
          · intro w hSw; obtain ⟨q1, q2⟩ := HS.out w hSw; go_simp; (try with_reducible rfl)
          simp only [Act.put, List.setIfInBounds_toArray, List.set_cons_zero, List.set_cons_succ]
          refine Hl.takeL (i := 7) (d := 81) (v := ?_) rfl (by kernel_rfl) (by kernel_rfl) (by kernel_rfl) (fun _ _ _ h => h) (by rfl) ?_ (by first | assumption | trivial) ?_
          rotate_left
          · intro w hSw; obtain ⟨q1, q2⟩ := HS.out w hSw; go_simp; (try with_reducible rfl)
          simp only [Act.put, List.setIfInBounds_toArray, List.set_cons_zero, List.set_cons_succ]
          refine Hl.takeL (i := 8) (d := 82) (v := ?_) rfl (by kernel_rfl) (by kernel_rfl) (by kernel_rfl) (fun _ _ _ h => h) (by rfl) ?_ (by first | assumption | trivial) ?_
          rotate_left
          · intro w hSw; obtain ⟨q1, q2⟩ := HS.out w hSw; go_simp; (try with_reducible rfl)
          simp only [Act.put, List.setIfInBounds_toArray, List.set_cons_zero, List.set_cons_succ]
          refine Hl.takeL (i := 9) (d := 83) (v := ?_) rfl (by kernel_rfl) (by kernel_rfl) (by kernel_rfl) (fun _ _ _ h => h) (by rfl) ?_ (by first | assumption | trivial) ?_
          rotate_left
          · intro w hSw; obtain ⟨q1, q2⟩ := HS.out w hSw; go_simp; (try with_reducible rfl)
          simp only [Act.put, List.setIfInBounds_toArray, List.set_cons_zero, List.set_cons_succ]
          refine Hl.takeL (i := 10) (d := 84) (v := ?_) rfl (by kernel_rfl) (by kernel_rfl) (by kernel_rfl) (fun _ _ _ h => h) (by rfl) ?_ (by first | assumption | trivial) ?_
          rotate_left
          · intro w hSw; obtain ⟨q1, q2⟩ := HS.out w hSw; go_simp; (try with_reducible rfl)
          simp only [Act.put, List.setIfInBounds_toArray, List.set_cons_zero, List.set_cons_succ]
          refine Hl.consL (i := 5) rfl (by kernel_rfl) (fun K' hK' => ?_)
          go_simp
          refine (HP1.out _ _ HT.out).mono ?_
          rintro e v6 ⟨rfl, hq⟩
          replace HT : Hid (Oq.O3 (At V) (RoAt V) (At V) V v6 p PS q s r s [(gs, .cells #[.int .i64 wx, .int .i64 mx, .string dx] 35)]) := hq
          clear hq hHeld HP1
          try go_wp2_with fail
          refine hK'.out _ _ (HT.out.rows _ List.mem_cons_self) (fun hHeld => ?_)
          clear hK' K'
          refine Hl.consL (i := 11) rfl (by kernel_rfl) (fun K' hK' => ?_)
          go_simp
          refine (HP2.out _ _ _ HT.out).mono ?_
          rintro e v7 ⟨rfl, hq⟩
          replace HT : Hid (Oq.O3 (At V) (RoAt V) (At V) V v7 p PS q PS r s [(gs, .cells #[.int .i64 wx, .int .i64 mx, .string dx] 35)]) := hq
          clear hq hHeld HP2
          try go_wp2_with fail
          refine hK'.out _ _ (HT.out.rows _ List.mem_cons_self) (fun hHeld => ?_)
          clear hK' K'
          refine Hl.takeL (i := 12) (d := 86) (v := ?_) rfl (by kernel_rfl) (by kernel_rfl) (by kernel_rfl) (fun _ _ _ h => h) (by rfl) ?_ (by first | assumption | trivial) ?_
          rotate_left
          · intro w hSw; obtain ⟨q1, q2⟩ := HS.out w hSw; go_simp; (try with_reducible rfl)
          simp only [Act.put, List.setIfInBounds_toArray, List.set_cons_zero, List.set_cons_succ]
          refine wpAnyH_done (by kernel_rfl) ?_ _
          clear hHeld HS
          go_wp2_with fail
          go_meet
          case rel => exact ⟨PS, HT⟩
        · by_cases h3 : wx = 3
          · subst h3
            go_wp2_with fail
            refine (HT.out.turn (roIs V) (S.is V) (fun F hF => S.sent V _ p F s mx (HQ.out _ HT.out.bel) HT.out.bel HMw.out hF)).mono ?_
            rintro e v6 ⟨rfl, hq⟩
            replace HT : Hid (Oq.O3 (At V) (RoAt V) (At V) V v6 p (Q18.sentS s mx) q s r s [(gs, .cells #[.int .i64 3, .int .i64 mx, .string dx] 35)]) := hq
            clear hq x0 x1 x2
            have x1 := Oq.row_cell (k := 1) (HT.out.rows _ List.mem_cons_self) rfl
            dsimp only at x1
            have x2 := Oq.row_cell (k := 2) (HT.out.rows _ List.mem_cons_self) rfl
            dsimp only at x2
            go_wp2_with fail
            refine (HT.out.turn2 (S.is V) (S.is V) (fun F hF => ro_sent V _ q F s mx HMw.out hF)).mono ?_
            rintro e v7 ⟨rfl, hq⟩
            replace HT : Hid (Oq.O3 (At V) (RoAt V) (At V) V v7 p (Q18.sentS s mx) q (Q18.sentS s mx) r s [(gs, .cells #[.int .i64 3, .int .i64 mx, .string dx] 35)]) := hq
            clear hq x1 x2
            go_wp2_with fail
            go_meet
            case rel => exact ⟨_, HT⟩
          · skip
            go_wp2_with fail
            refine (HT.out.turn (roIs V) (S.is V) (fun F hF => S.got V _ p F s mx dx (HQ.out _ HT.out.bel) HT.out.bel HMw.out hF)).mono ?_
            rintro e v6 ⟨rfl, hq⟩
            replace HT : Hid (Oq.O3 (At V) (RoAt V) (At V) V v6 p (Q18.gotS s mx dx) q s r s [(gs, .cells #[.int .i64 wx, .int .i64 mx, .string dx] 35)]) := hq
            clear hq x0 x1 x2
            have x1 := Oq.row_cell (k := 1) (HT.out.rows _ List.mem_cons_self) rfl
            dsimp only at x1
            have x2 := Oq.row_cell (k := 2) (HT.out.rows _ List.mem_cons_self) rfl
            dsimp only at x2
            go_wp2_with fail
            refine (HT.out.turn2 (S.is V) (S.is V) (fun F hF => ro_take V _ q F s mx dx HMw.out hF)).mono ?_
            rintro e v7 ⟨rfl, hq⟩
            replace HT : Hid (Oq.O3 (At V) (RoAt V) (At V) V v7 p (Q18.gotS s mx dx) q (Q18.gotS s mx dx) r s [(gs, .cells #[.int .i64 wx, .int .i64 mx, .string dx] 35)]) := hq
            clear hq x1 x2
            go_wp2_with fail
            go_meet
            case rel => exact ⟨_, HT⟩
      case rest =>
        clear HT x0 x1 x2 HMw
        obtain ⟨s', HT⟩ := hcut
        go_wp2_with fail
        refine (HT.out.turn3 (S.is V) (roIs V) (fun F hF => S.send V _ r F s 0 ⟨#[111, 116, 104, 101, 114]⟩ (HQ.out _ HT.out.bel) HT.out.bel (by decide) hF)).mono ?_
        rintro e v6 ⟨rfl, hq⟩
        generalize Q18.sendE s 0 ⟨#[111, 116, 104, 101, 114]⟩ = pe0
        generalize Q18.sendS s 0 ⟨#[111, 116, 104, 101, 114]⟩ = s2 at hq
        replace HT : Hid (Oq.O3 (At V) (RoAt V) (At V) V v6 p s' q s' r s2 [(gs, .cells #[.int .i64 wx, .int .i64 mx, .string dx] 35)]) := hq
        clear hq
        go_wp2_with fail
        refine (HT.out.turn3 (S.is V) (roIs V) (fun F hF => S.got V _ r F s2 0 ⟨#[111, 116, 104, 101, 114]⟩ (HQ.out _ HT.out.bel) HT.out.bel (by decide) hF)).mono ?_
        rintro e v7 ⟨rfl, hq⟩
        have HV : Hid (Oq.O2 (At V) (RoAt V) V v7 p s' q s' []) := hq.drop.less (fun x hx => by cases hx)
        clear hq HT
        have HE1 : Hid (∀ w R, Oq.O2 (At V) (RoAt V) V w p s' q s' R → Calls Try.prog 17 #[Ob.ptr p] w fun e w' => e = .returned (.tuple #[.agg #[.int .i64 (Vq.hd s'.q).msg, .string (Vq.hd s'.q).data], .bool (decide (0 < s'.q.l.length))]) ∧ Oq.O2 (At V) (RoAt V) V w' p s' q s' R) := fun w R h => h.turn (roIs V) (fun F hF => S.event V w p F s' (HQ.out _ h.bel) h.bel hF)
        go_wp2_with fail
        refine (HE1.out _ _ HV.out).mono ?_
        rintro e v8 ⟨rfl, hq⟩
        clear HV HE1
        generalize hdm : (Vq.hd s'.q).msg = dm at hq ⊢
        generalize hdd : (Vq.hd s'.q).data = dd at hq ⊢
        have HDm : Hid ((Vq.hd s'.q).msg = dm) := hdm
        have HDd : Hid ((Vq.hd s'.q).data = dd) := hdd
        have HV : Hid (Oq.O2 (At V) (RoAt V) V (v8.alloc (.cells #[.int .i64 dm, .string dd] 43)) p s' q s' [(v8.heap.size, .cells #[.int .i64 dm, .string dd] 43)]) := hq.al (S.is V) (roIs V) _
        clear hq hdm hdd
        go_upto_region 25 with fail
        generalize v8.alloc (.cells #[.int .i64 dm, .string dd] 43) = v9 at HV ⊢
        generalize v8.heap.size = g9 at HV ⊢
        replace HV : Hid (Oq.O2 (At V) (RoAt V) V v9.drew p s' q s' [(g9, .cells #[.int .i64 dm, .string dd] 43)]) := HV.out.on (S.is V) (roIs V) (Below.refl _ _).drew
        go_cut [14, 147] from 103 to 147 (fun _v14 vb wx => vb = .bool false ∧ Hid (Oq.O2 (At V) (RoAt V) V wx p s' q s' []))
        case first =>
          obtain ⟨G, hG, hcall⟩ := Oq.O2.turnG (P := Try.prog) (roIs V) (fun F hF => S.waiting V _ p F s' (HQ.out _ HV.out.bel) HV.out.bel hF) HV.out
          obtain ⟨rq, ab, cb, hl4, hfact⟩ := hG.queue
          have HK : Hid (Calls Try.prog 18 #[Ob.ptr p] v9.drew fun e w' => e = .returned (.int .i64 (s'.q.l.length : Int)) ∧ Oq.O2 (At V) (RoAt V) V w' p s' q s' [(g9, .cells #[.int .i64 dm, .string dd] 43)] ∧ ∀ g, G g → w'.heap[g]? = v9.drew.heap[g]?) := hcall
          clear hcall hG
          cases hl : s'.q.l with
          | nil =>
            obtain rfl : dm = 0 := by rw [← HDm.out]; unfold Vq.hd; rw [hl]; rfl
            obtain rfl : dd = ⟨#[]⟩ := by rw [← HDd.out]; unfold Vq.hd; rw [hl]; rfl
            have hfx : ∀ w' : World, (∀ g, G g → w'.heap[g]? = v9.drew.heap[g]?) → w'.cell? ⟨q, 16, none⟩ = some (Ob.ptr rq) ∧ w'.cell? ⟨rq, 1, none⟩ = some (.slice ab 0 cb) := fun w' hw => by
              have h := hfact w' hw
              rw [hl] at h
              exact ⟨h.1, h.2.1⟩
            have HS : Hid (∀ w' : World, (∀ g, G g → w'.heap[g]? = v9.drew.heap[g]?) ∧ w'.heap[g9]? = some (.cells #[.int .i64 0, .string ⟨#[]⟩] 43) → w'.cell? ⟨q, 16, none⟩ = some (Ob.ptr rq) ∧ w'.cell? ⟨rq, 1, none⟩ = some (.slice ab 0 cb) ∧ w'.cell? ⟨g9, 0, none⟩ = some (.int .i64 0) ∧ w'.cell? ⟨g9, 1, none⟩ = some (.string ⟨#[]⟩)) := fun w' h => by
              have h1 := hfx w' h.1
              exact ⟨h1.1, h1.2, Oq.row_cell (k := 0) h.2 rfl, Oq.row_cell (k := 1) h.2 rfl⟩
            simp only [hl, List.length_nil] at hl4 HK ⊢
            clear hfx hfact hl
            refine wp_region_held_drew (S := fun w' : World => (∀ g, G g → w'.heap[g]? = v9.drew.heap[g]?) ∧ w'.heap[g9]? = some (.cells #[.int .i64 0, .string ⟨#[]⟩] 43)) (by kernel_rfl) ⟨fun _ _ => rfl, HV.out.rows _ List.mem_cons_self⟩ (fun hHeld => ?_)
            generalize v9.drew = y0 at HV HK HS hHeld ⊢
            refine Hl.takeL (i := 0) (d := 108) (v := ?_) rfl (by kernel_rfl) (by kernel_rfl) (by kernel_rfl) (fun _ _ _ h => h) (by rfl) ?_ (by first | assumption | trivial) ?_
            rotate_left
            · intro w hSw; obtain ⟨q1, q2, q3, q4⟩ := HS.out w hSw; go_simp; (try with_reducible rfl)
            simp only [Act.put, List.setIfInBounds_toArray, List.set_cons_zero, List.set_cons_succ]
            refine Hl.takeL (i := 2) (d := 110) (v := ?_) rfl (by kernel_rfl) (by kernel_rfl) (by kernel_rfl) (fun _ _ _ h => h) (by rfl) ?_ (by first | assumption | trivial) ?_
            rotate_left
            · intro w hSw; obtain ⟨q1, q2, q3, q4⟩ := HS.out w hSw; go_simp; (try with_reducible rfl)
            simp only [Act.put, List.setIfInBounds_toArray, List.set_cons_zero, List.set_cons_succ]
            refine Hl.takeL (i := 3) (d := 111) (v := ?_) rfl (by kernel_rfl) (by kernel_rfl) (by kernel_rfl) (fun _ _ _ h => h) (by rfl) ?_ (by first | assumption | trivial) ?_
            rotate_left
            · intro w hSw; obtain ⟨q1, q2, q3, q4⟩ := HS.out w hSw; go_simp; (try with_reducible rfl)
            simp only [Act.put, List.setIfInBounds_toArray, List.set_cons_zero, List.set_cons_succ]
            refine Hl.takeL (i := 4) (d := 112) (v := ?_) rfl (by kernel_rfl) (by kernel_rfl) (by kernel_rfl) (fun _ _ _ h => h) (by rfl) ?_ (by first | assumption | trivial) ?_
            rotate_left
            · intro w hSw; obtain ⟨q1, q2, q3, q4⟩ := HS.out w hSw; go_simp; (try with_reducible rfl)
            simp only [Act.put, List.setIfInBounds_toArray, List.set_cons_zero, List.set_cons_succ]
            refine Hl.takeL (i := 5) (d := 113) (v := ?_) rfl (by kernel_rfl) (by kernel_rfl) (by kernel_rfl) (fun _ _ _ h => h) (by rfl) ?_ (by first | assumption | trivial) ?_
            rotate_left
            · intro w hSw; obtain ⟨q1, q2, q3, q4⟩ := HS.out w hSw; go_simp; (try with_reducible rfl)
            simp only [Act.put, List.setIfInBounds_toArray, List.set_cons_zero, List.set_cons_succ]
            refine Hl.takeL (i := 6) (d := 114) (v := ?_) rfl (by kernel_rfl) (by kernel_rfl) (by kernel_rfl) (fun _ _ _ h => h) (by rfl) ?_ (by first | assumption | trivial) ?_
            rotate_left
            · intro w hSw; obtain ⟨q1, q2, q3, q4⟩ := HS.out w hSw; go_simp; (try with_reducible rfl)
            simp only [Act.put, List.setIfInBounds_toArray, List.set_cons_zero, List.set_cons_succ]
            refine Hl.takeL (i := 7) (d := 115) (v := ?_) rfl (by kernel_rfl) (by kernel_rfl) (by kernel_rfl) (fun _ _ _ h => h) (by rfl) ?_ (by first | assumption | trivial) ?_
            rotate_left
            · intro w hSw; obtain ⟨q1, q2, q3, q4⟩ := HS.out w hSw; go_simp; (try with_reducible rfl)
            simp only [Act.put, List.setIfInBounds_toArray, List.set_cons_zero, List.set_cons_succ]
            refine Hl.takeL (i := 8) (d := 116) (v := ?_) rfl (by kernel_rfl) (by kernel_rfl) (by kernel_rfl) (fun _ _ _ h => h) (by rfl) ?_ (by first | assumption | trivial) ?_
            rotate_left
            · intro w hSw; obtain ⟨q1, q2, q3, q4⟩ := HS.out w hSw; go_simp; (try with_reducible rfl)
            simp only [Act.put, List.setIfInBounds_toArray, List.set_cons_zero, List.set_cons_succ]
            refine Hl.takeL (i := 9) (d := 117) (v := ?_) rfl (by kernel_rfl) (by kernel_rfl) (by kernel_rfl) (fun _ _ _ h => h) (by rfl) ?_ (by first | assumption | trivial) ?_
            rotate_left
            · intro w hSw; obtain ⟨q1, q2, q3, q4⟩ := HS.out w hSw; go_simp; (try with_reducible rfl)
            simp only [Act.put, List.setIfInBounds_toArray, List.set_cons_zero, List.set_cons_succ]
            refine Hl.consL (i := 1) rfl (by kernel_rfl) (fun K' hK' => ?_)
            go_simp
            refine HK.out.mono ?_
            rintro e y1 ⟨rfl, hq, hGk⟩
            have hS1 : (∀ g, G g → y1.heap[g]? = y0.heap[g]?) ∧ y1.heap[g9]? = some (.cells #[.int .i64 0, .string ⟨#[]⟩] 43) := ⟨hGk, hq.rows _ List.mem_cons_self⟩
            replace HV : Hid (Oq.O2 (At V) (RoAt V) V y1 p s' q s' [(g9, .cells #[.int .i64 0, .string ⟨#[]⟩] 43)]) := hq
            clear hq hGk hHeld HK
            try go_wp2_with fail
            refine hK'.out _ _ hS1 (fun hHeld => ?_)
            clear hK' K'
            refine Hl.takeL (i := 10) (d := 118) (v := ?_) rfl (by kernel_rfl) (by kernel_rfl) (by kernel_rfl) (fun _ _ _ h => h) (by rfl) ?_ (by first | assumption | trivial) ?_
            rotate_left
            · intro w hSw; obtain ⟨q1, q2, q3, q4⟩ := HS.out w hSw; go_simp; (try with_reducible rfl)
            simp only [Act.put, List.setIfInBounds_toArray, List.set_cons_zero, List.set_cons_succ]
            refine Hl.takeL (i := 11) (d := 119) (v := ?_) rfl (by kernel_rfl) (by kernel_rfl) (by kernel_rfl) (fun _ _ _ h => h) (by rfl) ?_ (by first | assumption | trivial) ?_
            rotate_left
            · intro w hSw; obtain ⟨q1, q2, q3, q4⟩ := HS.out w hSw; go_simp; (try with_reducible rfl)
            simp only [Act.put, List.setIfInBounds_toArray, List.set_cons_zero, List.set_cons_succ]
            refine Hl.takeL (i := 12) (d := 120) (v := ?_) rfl (by kernel_rfl) (by kernel_rfl) (by kernel_rfl) (fun _ _ _ h => h) (by rfl) ?_ (by first | assumption | trivial) ?_
            rotate_left
            · intro w hSw; obtain ⟨q1, q2, q3, q4⟩ := HS.out w hSw; go_simp; (try with_reducible rfl)
            simp only [Act.put, List.setIfInBounds_toArray, List.set_cons_zero, List.set_cons_succ]
            refine Hl.takeL (i := 13) (d := 121) (v := ?_) rfl (by kernel_rfl) (by kernel_rfl) (by kernel_rfl) (fun _ _ _ h => h) (by rfl) ?_ (by first | assumption | trivial) ?_
            rotate_left
            · intro w hSw; obtain ⟨q1, q2, q3, q4⟩ := HS.out w hSw; go_simp; (try with_reducible rfl)
            simp only [Act.put, List.setIfInBounds_toArray, List.set_cons_zero, List.set_cons_succ]
            refine Hl.takeL (i := 14) (d := 122) (v := ?_) rfl (by kernel_rfl) (by kernel_rfl) (by kernel_rfl) (fun _ _ _ h => h) (by rfl) ?_ (by first | assumption | trivial) ?_
            rotate_left
            · intro w hSw; obtain ⟨q1, q2, q3, q4⟩ := HS.out w hSw; go_simp; (try with_reducible rfl)
            simp only [Act.put, List.setIfInBounds_toArray, List.set_cons_zero, List.set_cons_succ]
            refine Hl.takeL (i := 15) (d := 123) (v := ?_) rfl (by kernel_rfl) (by kernel_rfl) (by kernel_rfl) (fun _ _ _ h => h) (by rfl) ?_ (by first | assumption | trivial) ?_
            rotate_left
            · intro w hSw; obtain ⟨q1, q2, q3, q4⟩ := HS.out w hSw; go_simp; (try with_reducible rfl)
            simp only [Act.put, List.setIfInBounds_toArray, List.set_cons_zero, List.set_cons_succ]
            refine Hl.takeL (i := 16) (d := 124) (v := ?_) rfl (by kernel_rfl) (by kernel_rfl) (by kernel_rfl) (fun _ _ _ h => h) (by rfl) ?_ (by first | assumption | trivial) ?_
            rotate_left
            · intro w hSw; obtain ⟨q1, q2, q3, q4⟩ := HS.out w hSw; go_simp; (try with_reducible rfl)
            simp only [Act.put, List.setIfInBounds_toArray, List.set_cons_zero, List.set_cons_succ]
            refine Hl.takeL (i := 17) (d := 125) (v := ?_) rfl (by kernel_rfl) (by kernel_rfl) (by kernel_rfl) (fun _ _ _ h => h) (by rfl) ?_ (by first | assumption | trivial) ?_
            rotate_left
            · intro w hSw; obtain ⟨q1, q2, q3, q4⟩ := HS.out w hSw; go_simp; (try with_reducible rfl)
            simp only [Act.put, List.setIfInBounds_toArray, List.set_cons_zero, List.set_cons_succ]
            refine Hl.takeL (i := 18) (d := 126) (v := ?_) rfl (by kernel_rfl) (by kernel_rfl) (by kernel_rfl) (fun _ _ _ h => h) (by rfl) ?_ (by first | assumption | trivial) ?_
            rotate_left
            · intro w hSw; obtain ⟨q1, q2, q3, q4⟩ := HS.out w hSw; go_simp; (try with_reducible rfl)
            simp only [Act.put, List.setIfInBounds_toArray, List.set_cons_zero, List.set_cons_succ]
            refine Hl.takeL (i := 19) (d := 127) (v := ?_) rfl (by kernel_rfl) (by kernel_rfl) (by kernel_rfl) (fun _ _ _ h => h) (by rfl) ?_ (by first | assumption | trivial) ?_
            rotate_left
            · intro w hSw; obtain ⟨q1, q2, q3, q4⟩ := HS.out w hSw; go_simp; (try with_reducible rfl)
            simp only [Act.put, List.setIfInBounds_toArray, List.set_cons_zero, List.set_cons_succ]
            refine Hl.takeL (i := 20) (d := 128) (v := ?_) rfl (by kernel_rfl) (by kernel_rfl) (by kernel_rfl) (fun _ _ _ h => h) (by rfl) ?_ (by first | assumption | trivial) ?_
            rotate_left
            · intro w hSw; obtain ⟨q1, q2, q3, q4⟩ := HS.out w hSw; go_simp; (try with_reducible rfl)
            simp only [Act.put, List.setIfInBounds_toArray, List.set_cons_zero, List.set_cons_succ]
            refine Hl.takeL (i := 21) (d := 129) (v := ?_) rfl (by kernel_rfl) (by kernel_rfl) (by kernel_rfl) (fun _ _ _ h => h) (by rfl) ?_ (by first | assumption | trivial) ?_
            rotate_left
            · intro w hSw; obtain ⟨q1, q2, q3, q4⟩ := HS.out w hSw; go_simp; (try with_reducible rfl)
            simp only [Act.put, List.setIfInBounds_toArray, List.set_cons_zero, List.set_cons_succ]
            refine Hl.takeL (i := 22) (d := 130) (v := ?_) rfl (by kernel_rfl) (by kernel_rfl) (by kernel_rfl) (fun _ _ _ h => h) (by rfl) ?_ (by first | assumption | trivial) ?_
            rotate_left
            · intro w hSw; obtain ⟨q1, q2, q3, q4⟩ := HS.out w hSw; go_simp; (try with_reducible rfl)
            simp only [Act.put, List.setIfInBounds_toArray, List.set_cons_zero, List.set_cons_succ]
            refine Hl.takeL (i := 23) (d := 131) (v := ?_) rfl (by kernel_rfl) (by kernel_rfl) (by kernel_rfl) (fun _ _ _ h => h) (by rfl) ?_ (by first | assumption | trivial) ?_
            rotate_left
            · intro w hSw; obtain ⟨q1, q2, q3, q4⟩ := HS.out w hSw; go_simp; (try with_reducible rfl)
            simp only [Act.put, List.setIfInBounds_toArray, List.set_cons_zero, List.set_cons_succ]
            refine Hl.takeL (i := 24) (d := 132) (v := ?_) rfl (by kernel_rfl) (by kernel_rfl) (by kernel_rfl) (fun _ _ _ h => h) (by rfl) ?_ (by first | assumption | trivial) ?_
            rotate_left
            · intro w hSw; obtain ⟨q1, q2, q3, q4⟩ := HS.out w hSw; go_simp; (try with_reducible rfl)
            simp only [Act.put, List.setIfInBounds_toArray, List.set_cons_zero, List.set_cons_succ]
            refine Hl.takeL (i := 25) (d := 133) (v := ?_) rfl (by kernel_rfl) (by kernel_rfl) (by kernel_rfl) (fun _ _ _ h => h) (by rfl) ?_ (by first | assumption | trivial) ?_
            rotate_left
            · intro w hSw; obtain ⟨q1, q2, q3, q4⟩ := HS.out w hSw; go_simp; (try with_reducible rfl)
            simp only [Act.put, List.setIfInBounds_toArray, List.set_cons_zero, List.set_cons_succ]
            refine Hl.takeL (i := 26) (d := 134) (v := ?_) rfl (by kernel_rfl) (by kernel_rfl) (by kernel_rfl) (fun _ _ _ h => h) (by rfl) ?_ (by first | assumption | trivial) ?_
            rotate_left
            · intro w hSw; obtain ⟨q1, q2, q3, q4⟩ := HS.out w hSw; go_simp; (try with_reducible rfl)
            simp only [Act.put, List.setIfInBounds_toArray, List.set_cons_zero, List.set_cons_succ]
            refine skipL (i := 27) (d := 135) rfl (by kernel_rfl) (by kernel_rfl) (by kernel_rfl) (fun _ _ _ h => h) (by rfl) (by first | assumption | trivial) ?_
            simp only [Act.put, List.setIfInBounds_toArray, List.set_cons_zero, List.set_cons_succ]
            refine skipL (i := 28) (d := 136) rfl (by kernel_rfl) (by kernel_rfl) (by kernel_rfl) (fun _ _ _ h => h) (by rfl) (by first | assumption | trivial) ?_
            simp only [Act.put, List.setIfInBounds_toArray, List.set_cons_zero, List.set_cons_succ]
            refine skipL (i := 29) (d := 137) rfl (by kernel_rfl) (by kernel_rfl) (by kernel_rfl) (fun _ _ _ h => h) (by rfl) (by first | assumption | trivial) ?_
            simp only [Act.put, List.setIfInBounds_toArray, List.set_cons_zero, List.set_cons_succ]
            refine skipL (i := 30) (d := 138) rfl (by kernel_rfl) (by kernel_rfl) (by kernel_rfl) (fun _ _ _ h => h) (by rfl) (by first | assumption | trivial) ?_
            simp only [Act.put, List.setIfInBounds_toArray, List.set_cons_zero, List.set_cons_succ]
            refine skipL (i := 31) (d := 139) rfl (by kernel_rfl) (by kernel_rfl) (by kernel_rfl) (fun _ _ _ h => h) (by rfl) (by first | assumption | trivial) ?_
            simp only [Act.put, List.setIfInBounds_toArray, List.set_cons_zero, List.set_cons_succ]
            refine skipL (i := 32) (d := 140) rfl (by kernel_rfl) (by kernel_rfl) (by kernel_rfl) (fun _ _ _ h => h) (by rfl) (by first | assumption | trivial) ?_
            simp only [Act.put, List.setIfInBounds_toArray, List.set_cons_zero, List.set_cons_succ]
            refine skipL (i := 33) (d := 141) rfl (by kernel_rfl) (by kernel_rfl) (by kernel_rfl) (fun _ _ _ h => h) (by rfl) (by first | assumption | trivial) ?_
            simp only [Act.put, List.setIfInBounds_toArray, List.set_cons_zero, List.set_cons_succ]
            refine skipL (i := 34) (d := 142) rfl (by kernel_rfl) (by kernel_rfl) (by kernel_rfl) (fun _ _ _ h => h) (by rfl) (by first | assumption | trivial) ?_
            simp only [Act.put, List.setIfInBounds_toArray, List.set_cons_zero, List.set_cons_succ]
            refine skipL (i := 35) (d := 143) rfl (by kernel_rfl) (by kernel_rfl) (by kernel_rfl) (fun _ _ _ h => h) (by rfl) (by first | assumption | trivial) ?_
            simp only [Act.put, List.setIfInBounds_toArray, List.set_cons_zero, List.set_cons_succ]
            refine skipL (i := 36) (d := 144) rfl (by kernel_rfl) (by kernel_rfl) (by kernel_rfl) (fun _ _ _ h => h) (by rfl) (by first | assumption | trivial) ?_
            simp only [Act.put, List.setIfInBounds_toArray, List.set_cons_zero, List.set_cons_succ]
            refine skipL (i := 37) (d := 145) rfl (by kernel_rfl) (by kernel_rfl) (by kernel_rfl) (fun _ _ _ h => h) (by rfl) (by first | assumption | trivial) ?_
            simp only [Act.put, List.setIfInBounds_toArray, List.set_cons_zero, List.set_cons_succ]
            refine Hl.takeL (i := 38) (d := 146) (v := ?_) rfl (by kernel_rfl) (by kernel_rfl) (by kernel_rfl) (fun _ _ _ h => h) (by rfl) ?_ (by first | assumption | trivial) ?_
            rotate_left
            · intro w hSw; obtain ⟨q1, q2, q3, q4⟩ := HS.out w hSw; go_simp; (try with_reducible rfl)
            simp only [Act.put, List.setIfInBounds_toArray, List.set_cons_zero, List.set_cons_succ]
            refine Hl.takeL (i := 39) (d := 147) (v := ?_) rfl (by kernel_rfl) (by kernel_rfl) (by kernel_rfl) (fun _ _ _ h => h) (by rfl) ?_ (by first | assumption | trivial) ?_
            rotate_left
            · intro w hSw; obtain ⟨q1, q2, q3, q4⟩ := HS.out w hSw; go_simp; (try with_reducible rfl)
            simp only [Act.put, List.setIfInBounds_toArray, List.set_cons_zero, List.set_cons_succ]
            refine wpAnyH_done (by kernel_rfl) ?_ _
            clear hHeld HS hS1
            have HV2 : Hid (Oq.O2 (At V) (RoAt V) V y1 p s' q s' []) := HV.out.less (fun x hx => by cases hx)
            clear HV
            go_wp2_with fail
            go_meet
            case rel => exact ⟨rfl, HV2⟩
          | cons d1 l1 =>
            obtain rfl : d1.msg = dm := by rw [← HDm.out]; unfold Vq.hd; rw [hl]; rfl
            obtain rfl : d1.data = dd := by rw [← HDd.out]; unfold Vq.hd; rw [hl]; rfl
            obtain ⟨ga, oa, rfl, _⟩ := (hfact v9.drew (fun _ _ => rfl)).2.2 d1 l1 hl
            have hfx : ∀ w' : World, (∀ g, G g → w'.heap[g]? = v9.drew.heap[g]?) → w'.cell? ⟨q, 16, none⟩ = some (Ob.ptr rq) ∧ w'.cell? ⟨rq, 1, none⟩ = some (.slice (some ⟨ga, oa, none⟩) (l1.length + 1) cb) ∧ w'.cell? ⟨ga, oa, none⟩ = some (.int .i64 d1.msg) ∧ w'.cell? ⟨ga, oa + 1, none⟩ = some (.string d1.data) := fun w' hw => by
              have h := hfact w' hw
              obtain ⟨ga', oa', e1, e2, e3⟩ := h.2.2 d1 l1 hl
              injection e1 with e1
              injection e1 with e1 e1' _
              subst e1 e1'
              rw [hl] at h
              exact ⟨h.1, h.2.1, e2, e3⟩
            have HS : Hid (∀ w' : World, (∀ g, G g → w'.heap[g]? = v9.drew.heap[g]?) ∧ w'.heap[g9]? = some (.cells #[.int .i64 d1.msg, .string d1.data] 43) → w'.cell? ⟨q, 16, none⟩ = some (Ob.ptr rq) ∧ w'.cell? ⟨rq, 1, none⟩ = some (.slice (some ⟨ga, oa, none⟩) (l1.length + 1) cb) ∧ w'.cell? ⟨g9, 0, none⟩ = some (.int .i64 d1.msg) ∧ w'.cell? ⟨g9, 1, none⟩ = some (.string d1.data) ∧ w'.cell? ⟨ga, oa, none⟩ = some (.int .i64 d1.msg) ∧ w'.cell? ⟨ga, oa + 1, none⟩ = some (.string d1.data)) := fun w' h => by
              have h1 := hfx w' h.1
              exact ⟨h1.1, h1.2.1, Oq.row_cell (k := 0) h.2 rfl, Oq.row_cell (k := 1) h.2 rfl, h1.2.2.1, h1.2.2.2⟩
            simp only [hl, List.length_cons] at hl4 HK ⊢
            clear hfx hfact hl
            generalize d1.msg = em at HV HS HK ⊢
            generalize d1.data = ed at HV HS HK ⊢
            have hnn : (0 : Int) < (l1.length : Int) + 1 := by omega
            refine wp_region_held_drew (S := fun w' : World => (∀ g, G g → w'.heap[g]? = v9.drew.heap[g]?) ∧ w'.heap[g9]? = some (.cells #[.int .i64 em, .string ed] 43)) (by kernel_rfl) ⟨fun _ _ => rfl, HV.out.rows _ List.mem_cons_self⟩ (fun hHeld => ?_)
            generalize v9.drew = y0 at HV HK HS hHeld ⊢
            refine Hl.takeL (i := 0) (d := 108) (v := ?_) rfl (by kernel_rfl) (by kernel_rfl) (by kernel_rfl) (fun _ _ _ h => h) (by rfl) ?_ (by first | assumption | trivial) ?_
            rotate_left
            · intro w hSw; obtain ⟨q1, q2, q3, q4, q5, q6⟩ := HS.out w hSw; go_simp; (try with_reducible rfl)
            simp only [Act.put, List.setIfInBounds_toArray, List.set_cons_zero, List.set_cons_succ]
            refine Hl.takeL (i := 2) (d := 110) (v := ?_) rfl (by kernel_rfl) (by kernel_rfl) (by kernel_rfl) (fun _ _ _ h => h) (by rfl) ?_ (by first | assumption | trivial) ?_
            rotate_left
            · intro w hSw; obtain ⟨q1, q2, q3, q4, q5, q6⟩ := HS.out w hSw; go_simp; (try with_reducible rfl)
            simp only [Act.put, List.setIfInBounds_toArray, List.set_cons_zero, List.set_cons_succ]
            refine Hl.takeL (i := 3) (d := 111) (v := ?_) rfl (by kernel_rfl) (by kernel_rfl) (by kernel_rfl) (fun _ _ _ h => h) (by rfl) ?_ (by first | assumption | trivial) ?_
            rotate_left
            · intro w hSw; obtain ⟨q1, q2, q3, q4, q5, q6⟩ := HS.out w hSw; go_simp; (try with_reducible rfl)
            simp only [Act.put, List.setIfInBounds_toArray, List.set_cons_zero, List.set_cons_succ]
            refine Hl.takeL (i := 4) (d := 112) (v := ?_) rfl (by kernel_rfl) (by kernel_rfl) (by kernel_rfl) (fun _ _ _ h => h) (by rfl) ?_ (by first | assumption | trivial) ?_
            rotate_left
            · intro w hSw; obtain ⟨q1, q2, q3, q4, q5, q6⟩ := HS.out w hSw; go_simp; (try with_reducible rfl)
            simp only [Act.put, List.setIfInBounds_toArray, List.set_cons_zero, List.set_cons_succ]
            refine Hl.takeL (i := 5) (d := 113) (v := ?_) rfl (by kernel_rfl) (by kernel_rfl) (by kernel_rfl) (fun _ _ _ h => h) (by rfl) ?_ (by first | assumption | trivial) ?_
            rotate_left
            · intro w hSw; obtain ⟨q1, q2, q3, q4, q5, q6⟩ := HS.out w hSw; go_simp; (try with_reducible rfl)
            simp only [Act.put, List.setIfInBounds_toArray, List.set_cons_zero, List.set_cons_succ]
            refine Hl.takeL (i := 6) (d := 114) (v := ?_) rfl (by kernel_rfl) (by kernel_rfl) (by kernel_rfl) (fun _ _ _ h => h) (by rfl) ?_ (by first | assumption | trivial) ?_
            rotate_left
            · intro w hSw; obtain ⟨q1, q2, q3, q4, q5, q6⟩ := HS.out w hSw; go_simp; (try with_reducible rfl)
            simp only [Act.put, List.setIfInBounds_toArray, List.set_cons_zero, List.set_cons_succ]
            refine Hl.takeL (i := 7) (d := 115) (v := ?_) rfl (by kernel_rfl) (by kernel_rfl) (by kernel_rfl) (fun _ _ _ h => h) (by rfl) ?_ (by first | assumption | trivial) ?_
            rotate_left
            · intro w hSw; obtain ⟨q1, q2, q3, q4, q5, q6⟩ := HS.out w hSw; go_simp; (try with_reducible rfl)
            simp only [Act.put, List.setIfInBounds_toArray, List.set_cons_zero, List.set_cons_succ]
            refine Hl.takeL (i := 8) (d := 116) (v := ?_) rfl (by kernel_rfl) (by kernel_rfl) (by kernel_rfl) (fun _ _ _ h => h) (by rfl) ?_ (by first | assumption | trivial) ?_
            rotate_left
            · intro w hSw; obtain ⟨q1, q2, q3, q4, q5, q6⟩ := HS.out w hSw; go_simp; (try with_reducible rfl)
            simp only [Act.put, List.setIfInBounds_toArray, List.set_cons_zero, List.set_cons_succ]
            refine Hl.takeL (i := 9) (d := 117) (v := ?_) rfl (by kernel_rfl) (by kernel_rfl) (by kernel_rfl) (fun _ _ _ h => h) (by rfl) ?_ (by first | assumption | trivial) ?_
            rotate_left
            · intro w hSw; obtain ⟨q1, q2, q3, q4, q5, q6⟩ := HS.out w hSw; go_simp; (try with_reducible rfl)
            simp only [Act.put, List.setIfInBounds_toArray, List.set_cons_zero, List.set_cons_succ]
            refine Hl.consL (i := 1) rfl (by kernel_rfl) (fun K' hK' => ?_)
            go_simp
            refine HK.out.mono ?_
            rintro e y1 ⟨rfl, hq, hGk⟩
            have hS1 : (∀ g, G g → y1.heap[g]? = y0.heap[g]?) ∧ y1.heap[g9]? = some (.cells #[.int .i64 em, .string ed] 43) := ⟨hGk, hq.rows _ List.mem_cons_self⟩
            replace HV : Hid (Oq.O2 (At V) (RoAt V) V y1 p s' q s' [(g9, .cells #[.int .i64 em, .string ed] 43)]) := hq
            clear hq hGk hHeld HK
            try go_wp2_with fail
            refine hK'.out _ _ hS1 (fun hHeld => ?_)
            clear hK' K'
            refine Hl.takeL (i := 10) (d := 118) (v := ?_) rfl (by kernel_rfl) (by kernel_rfl) (by kernel_rfl) (fun _ _ _ h => h) (by rfl) ?_ (by first | assumption | trivial) ?_
            rotate_left
            · intro w hSw; obtain ⟨q1, q2, q3, q4, q5, q6⟩ := HS.out w hSw; go_simp; (try with_reducible rfl)
            simp only [Act.put, List.setIfInBounds_toArray, List.set_cons_zero, List.set_cons_succ]
            refine Hl.takeL (i := 11) (d := 119) (v := ?_) rfl (by kernel_rfl) (by kernel_rfl) (by kernel_rfl) (fun _ _ _ h => h) (by rfl) ?_ (by first | assumption | trivial) ?_
            rotate_left
            · intro w hSw; obtain ⟨q1, q2, q3, q4, q5, q6⟩ := HS.out w hSw; go_simp; (try with_reducible rfl)
            simp only [Act.put, List.setIfInBounds_toArray, List.set_cons_zero, List.set_cons_succ]
            refine Hl.takeL (i := 12) (d := 120) (v := ?_) rfl (by kernel_rfl) (by kernel_rfl) (by kernel_rfl) (fun _ _ _ h => h) (by rfl) ?_ (by first | assumption | trivial) ?_
            rotate_left
            · intro w hSw; obtain ⟨q1, q2, q3, q4, q5, q6⟩ := HS.out w hSw; go_simp; (try with_reducible rfl)
            simp only [Act.put, List.setIfInBounds_toArray, List.set_cons_zero, List.set_cons_succ]
            refine Hl.takeL (i := 13) (d := 121) (v := ?_) rfl (by kernel_rfl) (by kernel_rfl) (by kernel_rfl) (fun _ _ _ h => h) (by rfl) ?_ (by first | assumption | trivial) ?_
            rotate_left
            · intro w hSw; obtain ⟨q1, q2, q3, q4, q5, q6⟩ := HS.out w hSw; go_simp; (try with_reducible rfl)
            simp only [Act.put, List.setIfInBounds_toArray, List.set_cons_zero, List.set_cons_succ]
            refine Hl.takeL (i := 14) (d := 122) (v := ?_) rfl (by kernel_rfl) (by kernel_rfl) (by kernel_rfl) (fun _ _ _ h => h) (by rfl) ?_ (by first | assumption | trivial) ?_
            rotate_left
            · intro w hSw; obtain ⟨q1, q2, q3, q4, q5, q6⟩ := HS.out w hSw; go_simp; (try with_reducible rfl)
            simp only [Act.put, List.setIfInBounds_toArray, List.set_cons_zero, List.set_cons_succ]
            refine Hl.takeL (i := 15) (d := 123) (v := ?_) rfl (by kernel_rfl) (by kernel_rfl) (by kernel_rfl) (fun _ _ _ h => h) (by rfl) ?_ (by first | assumption | trivial) ?_
            rotate_left
            · intro w hSw; obtain ⟨q1, q2, q3, q4, q5, q6⟩ := HS.out w hSw; go_simp; (try with_reducible rfl)
            simp only [Act.put, List.setIfInBounds_toArray, List.set_cons_zero, List.set_cons_succ]
            refine Hl.takeL (i := 16) (d := 124) (v := ?_) rfl (by kernel_rfl) (by kernel_rfl) (by kernel_rfl) (fun _ _ _ h => h) (by rfl) ?_ (by first | assumption | trivial) ?_
            rotate_left
            · intro w hSw; obtain ⟨q1, q2, q3, q4, q5, q6⟩ := HS.out w hSw; go_simp; (try with_reducible rfl)
            simp only [Act.put, List.setIfInBounds_toArray, List.set_cons_zero, List.set_cons_succ]
            refine Hl.takeL (i := 17) (d := 125) (v := ?_) rfl (by kernel_rfl) (by kernel_rfl) (by kernel_rfl) (fun _ _ _ h => h) (by rfl) ?_ (by first | assumption | trivial) ?_
            rotate_left
            · intro w hSw; obtain ⟨q1, q2, q3, q4, q5, q6⟩ := HS.out w hSw; go_simp; (try with_reducible rfl)
            simp only [Act.put, List.setIfInBounds_toArray, List.set_cons_zero, List.set_cons_succ]
            refine Hl.takeL (i := 18) (d := 126) (v := ?_) rfl (by kernel_rfl) (by kernel_rfl) (by kernel_rfl) (fun _ _ _ h => h) (by rfl) ?_ (by first | assumption | trivial) ?_
            rotate_left
            · intro w hSw; obtain ⟨q1, q2, q3, q4, q5, q6⟩ := HS.out w hSw; go_simp; (try with_reducible rfl)
            simp only [Act.put, List.setIfInBounds_toArray, List.set_cons_zero, List.set_cons_succ]
            refine Hl.takeL (i := 19) (d := 127) (v := ?_) rfl (by kernel_rfl) (by kernel_rfl) (by kernel_rfl) (fun _ _ _ h => h) (by rfl) ?_ (by first | assumption | trivial) ?_
            rotate_left
            · intro w hSw; obtain ⟨q1, q2, q3, q4, q5, q6⟩ := HS.out w hSw; go_simp; (try with_reducible rfl)
            simp only [Act.put, List.setIfInBounds_toArray, List.set_cons_zero, List.set_cons_succ]
            refine Hl.takeL (i := 20) (d := 128) (v := ?_) rfl (by kernel_rfl) (by kernel_rfl) (by kernel_rfl) (fun _ _ _ h => h) (by rfl) ?_ (by first | assumption | trivial) ?_
            rotate_left
            · intro w hSw; obtain ⟨q1, q2, q3, q4, q5, q6⟩ := HS.out w hSw; go_simp; (try with_reducible rfl)
            simp only [Act.put, List.setIfInBounds_toArray, List.set_cons_zero, List.set_cons_succ]
            refine Hl.takeL (i := 21) (d := 129) (v := ?_) rfl (by kernel_rfl) (by kernel_rfl) (by kernel_rfl) (fun _ _ _ h => h) (by rfl) ?_ (by first | assumption | trivial) ?_
            rotate_left
            · intro w hSw; obtain ⟨q1, q2, q3, q4, q5, q6⟩ := HS.out w hSw; go_simp; (try with_reducible rfl)
            simp only [Act.put, List.setIfInBounds_toArray, List.set_cons_zero, List.set_cons_succ]
            refine Hl.takeL (i := 22) (d := 130) (v := ?_) rfl (by kernel_rfl) (by kernel_rfl) (by kernel_rfl) (fun _ _ _ h => h) (by rfl) ?_ (by first | assumption | trivial) ?_
            rotate_left
            · intro w hSw; obtain ⟨q1, q2, q3, q4, q5, q6⟩ := HS.out w hSw; go_simp; (try with_reducible rfl)
            simp only [Act.put, List.setIfInBounds_toArray, List.set_cons_zero, List.set_cons_succ]
            refine Hl.takeL (i := 23) (d := 131) (v := ?_) rfl (by kernel_rfl) (by kernel_rfl) (by kernel_rfl) (fun _ _ _ h => h) (by rfl) ?_ (by first | assumption | trivial) ?_
            rotate_left
            · intro w hSw; obtain ⟨q1, q2, q3, q4, q5, q6⟩ := HS.out w hSw; go_simp; (try with_reducible rfl)
            simp only [Act.put, List.setIfInBounds_toArray, List.set_cons_zero, List.set_cons_succ]
            refine Hl.takeL (i := 24) (d := 132) (v := ?_) rfl (by kernel_rfl) (by kernel_rfl) (by kernel_rfl) (fun _ _ _ h => h) (by rfl) ?_ (by first | assumption | trivial) ?_
            rotate_left
            · intro w hSw; obtain ⟨q1, q2, q3, q4, q5, q6⟩ := HS.out w hSw; go_simp; (try with_reducible rfl)
            simp only [Act.put, List.setIfInBounds_toArray, List.set_cons_zero, List.set_cons_succ]
            refine Hl.takeL (i := 25) (d := 133) (v := ?_) rfl (by kernel_rfl) (by kernel_rfl) (by kernel_rfl) (fun _ _ _ h => h) (by rfl) ?_ (by first | assumption | trivial) ?_
            rotate_left
            · intro w hSw; obtain ⟨q1, q2, q3, q4, q5, q6⟩ := HS.out w hSw; go_simp; (try with_reducible rfl)
            simp only [Act.put, List.setIfInBounds_toArray, List.set_cons_zero, List.set_cons_succ]
            refine Hl.takeL (i := 26) (d := 134) (v := ?_) rfl (by kernel_rfl) (by kernel_rfl) (by kernel_rfl) (fun _ _ _ h => h) (by rfl) ?_ (by first | assumption | trivial) ?_
            rotate_left
            · intro w hSw; obtain ⟨q1, q2, q3, q4, q5, q6⟩ := HS.out w hSw; go_simp; (try with_reducible rfl)
            simp only [Act.put, List.setIfInBounds_toArray, List.set_cons_zero, List.set_cons_succ]
            refine Hl.takeL (i := 27) (d := 135) (v := ?_) rfl (by kernel_rfl) (by kernel_rfl) (by kernel_rfl) (fun _ _ _ h => h) (by rfl) ?_ (by first | assumption | trivial) ?_
            rotate_left
            · intro w hSw; obtain ⟨q1, q2, q3, q4, q5, q6⟩ := HS.out w hSw; go_simp; (try with_reducible rfl)
            simp only [Act.put, List.setIfInBounds_toArray, List.set_cons_zero, List.set_cons_succ]
            refine Hl.takeL (i := 28) (d := 136) (v := ?_) rfl (by kernel_rfl) (by kernel_rfl) (by kernel_rfl) (fun _ _ _ h => h) (by rfl) ?_ (by first | assumption | trivial) ?_
            rotate_left
            · intro w hSw; obtain ⟨q1, q2, q3, q4, q5, q6⟩ := HS.out w hSw; go_simp; (try with_reducible rfl)
            simp only [Act.put, List.setIfInBounds_toArray, List.set_cons_zero, List.set_cons_succ]
            refine Hl.takeL (i := 29) (d := 137) (v := ?_) rfl (by kernel_rfl) (by kernel_rfl) (by kernel_rfl) (fun _ _ _ h => h) (by rfl) ?_ (by first | assumption | trivial) ?_
            rotate_left
            · intro w hSw; obtain ⟨q1, q2, q3, q4, q5, q6⟩ := HS.out w hSw; go_simp; (try with_reducible rfl)
            simp only [Act.put, List.setIfInBounds_toArray, List.set_cons_zero, List.set_cons_succ]
            refine Hl.takeL (i := 30) (d := 138) (v := ?_) rfl (by kernel_rfl) (by kernel_rfl) (by kernel_rfl) (fun _ _ _ h => h) (by rfl) ?_ (by first | assumption | trivial) ?_
            rotate_left
            · intro w hSw; obtain ⟨q1, q2, q3, q4, q5, q6⟩ := HS.out w hSw; go_simp; (try with_reducible rfl)
            simp only [Act.put, List.setIfInBounds_toArray, List.set_cons_zero, List.set_cons_succ]
            refine Hl.takeL (i := 31) (d := 139) (v := ?_) rfl (by kernel_rfl) (by kernel_rfl) (by kernel_rfl) (fun _ _ _ h => h) (by rfl) ?_ (by first | assumption | trivial) ?_
            rotate_left
            · intro w hSw; obtain ⟨q1, q2, q3, q4, q5, q6⟩ := HS.out w hSw; go_simp; (try with_reducible rfl)
            simp only [Act.put, List.setIfInBounds_toArray, List.set_cons_zero, List.set_cons_succ]
            refine Hl.takeL (i := 32) (d := 140) (v := ?_) rfl (by kernel_rfl) (by kernel_rfl) (by kernel_rfl) (fun _ _ _ h => h) (by rfl) ?_ (by first | assumption | trivial) ?_
            rotate_left
            · intro w hSw; obtain ⟨q1, q2, q3, q4, q5, q6⟩ := HS.out w hSw; go_simp; (try with_reducible rfl)
            simp only [Act.put, List.setIfInBounds_toArray, List.set_cons_zero, List.set_cons_succ]
            refine Hl.takeL (i := 33) (d := 141) (v := ?_) rfl (by kernel_rfl) (by kernel_rfl) (by kernel_rfl) (fun _ _ _ h => h) (by rfl) ?_ (by first | assumption | trivial) ?_
            rotate_left
            · intro w hSw; obtain ⟨q1, q2, q3, q4, q5, q6⟩ := HS.out w hSw; go_simp; (try with_reducible rfl)
            simp only [Act.put, List.setIfInBounds_toArray, List.set_cons_zero, List.set_cons_succ]
            refine Hl.takeL (i := 34) (d := 142) (v := ?_) rfl (by kernel_rfl) (by kernel_rfl) (by kernel_rfl) (fun _ _ _ h => h) (by rfl) ?_ (by first | assumption | trivial) ?_
            rotate_left
            · intro w hSw; obtain ⟨q1, q2, q3, q4, q5, q6⟩ := HS.out w hSw; go_simp; (try with_reducible rfl)
            simp only [Act.put, List.setIfInBounds_toArray, List.set_cons_zero, List.set_cons_succ]
            refine Hl.takeL (i := 35) (d := 143) (v := ?_) rfl (by kernel_rfl) (by kernel_rfl) (by kernel_rfl) (fun _ _ _ h => h) (by rfl) ?_ (by first | assumption | trivial) ?_
            rotate_left
            · intro w hSw; obtain ⟨q1, q2, q3, q4, q5, q6⟩ := HS.out w hSw; go_simp; (try with_reducible rfl)
            simp only [Act.put, List.setIfInBounds_toArray, List.set_cons_zero, List.set_cons_succ]
            refine Hl.takeL (i := 36) (d := 144) (v := ?_) rfl (by kernel_rfl) (by kernel_rfl) (by kernel_rfl) (fun _ _ _ h => h) (by rfl) ?_ (by first | assumption | trivial) ?_
            rotate_left
            · intro w hSw; obtain ⟨q1, q2, q3, q4, q5, q6⟩ := HS.out w hSw; go_simp; (try with_reducible rfl)
            simp only [Act.put, List.setIfInBounds_toArray, List.set_cons_zero, List.set_cons_succ]
            refine Hl.takeL (i := 37) (d := 145) (v := ?_) rfl (by kernel_rfl) (by kernel_rfl) (by kernel_rfl) (fun _ _ _ h => h) (by rfl) ?_ (by first | assumption | trivial) ?_
            rotate_left
            · intro w hSw; obtain ⟨q1, q2, q3, q4, q5, q6⟩ := HS.out w hSw; go_simp; (try with_reducible rfl)
            simp only [Act.put, List.setIfInBounds_toArray, List.set_cons_zero, List.set_cons_succ]
            refine Hl.takeL (i := 38) (d := 146) (v := ?_) rfl (by kernel_rfl) (by kernel_rfl) (by kernel_rfl) (fun _ _ _ h => h) (by rfl) ?_ (by first | assumption | trivial) ?_
            rotate_left
            · intro w hSw; obtain ⟨q1, q2, q3, q4, q5, q6⟩ := HS.out w hSw; go_simp; (try with_reducible rfl)
            simp only [Act.put, List.setIfInBounds_toArray, List.set_cons_zero, List.set_cons_succ]
            refine Hl.takeL (i := 39) (d := 147) (v := ?_) rfl (by kernel_rfl) (by kernel_rfl) (by kernel_rfl) (fun _ _ _ h => h) (by rfl) ?_ (by first | assumption | trivial) ?_
            rotate_left
            · intro w hSw; obtain ⟨q1, q2, q3, q4, q5, q6⟩ := HS.out w hSw; go_simp; (try with_reducible rfl)
            simp only [Act.put, List.setIfInBounds_toArray, List.set_cons_zero, List.set_cons_succ]
            refine wpAnyH_done (by kernel_rfl) ?_ _
            clear hHeld HS hS1
            have HV2 : Hid (Oq.O2 (At V) (RoAt V) V y1 p s' q s' []) := HV.out.less (fun x hx => by cases hx)
            clear HV
            go_wp2_with fail
            go_meet
            case rel => exact ⟨rfl, HV2⟩
        case rest =>
          clear HV HDm HDd
          obtain ⟨rfl, HV⟩ := hcut
          go_wp2_with fail
          go_loopw [15, 16, 17, 18, 19, 20, 21, 22, 23] (fun vk _b16 _b17 _b18 _b19 _b20 _b21 _b22 _b23 wk => ∃ k : Int, -1 ≤ k ∧ k ≤ (len0 : Int) + 1 ∧ vk = .int .i64 k ∧ Hid (Oq.O2 (At V) (RoAt V) V wk p s' q s' [])) (fun vk _ _ _ _ _ _ _ _ _ => ((len0 : Int) + 1 - intOf vk).toNat)
          case atStart => exact ⟨-1, by omega, by omega, rfl, HV⟩
          case round =>
            clear HV
            obtain ⟨k, hk1, hk2, rfl, HV⟩ := hrel
            by_cases hk : k ≤ (len0 : Int)
            · have kb : k ≤ 12 := by have := HN.out; omega
              have HKw : Hid ((Lit.int .i64 k).wf = true) := wf18 (by omega)
              have HP1 : Hid (∀ w, Oq.O2 (At V) (RoAt V) V w p s' q s' [] → Calls Try.prog 19 #[Ob.ptr p, .int .i64 k] w fun e w' => e = .returned (.tuple #[.string ((Q18.get s'.own k).getD ByteArray.empty), .bool (Q18.get s'.own k).isSome]) ∧ Oq.O2 (At V) (RoAt V) V w' p s' q s' []) := fun w h => h.turn (roIs V) (fun F hF => S.state V w p F s' k (HQ.out _ h.bel) h.bel HKw.out hF)
              have HP2 : Hid (∀ w, Oq.O2 (At V) (RoAt V) V w p s' q s' [] → Calls Try.prog 20 #[Ob.ptr q, .int .i64 k] w fun e w' => e = .returned (.tuple #[.string ((Q18.get s'.own k).getD ByteArray.empty), .bool (Q18.get s'.own k).isSome]) ∧ Oq.O2 (At V) (RoAt V) V w' p s' q s' []) := fun w h => h.turn2 (S.is V) (fun F hF => ro_state V w q F s' k HKw.out hF)
              have HP3 : Hid (∀ w, Oq.O2 (At V) (RoAt V) V w p s' q s' [] → Calls Try.prog 21 #[Ob.ptr p, .int .i64 k] w fun e w' => e = .returned (.tuple #[.string ((Q18.get s'.came k).getD ByteArray.empty), .bool (Q18.get s'.came k).isSome]) ∧ Oq.O2 (At V) (RoAt V) V w' p s' q s' []) := fun w h => h.turn (roIs V) (fun F hF => S.read V w p F s' k (HQ.out _ h.bel) h.bel HKw.out hF)
              have HP4 : Hid (∀ w, Oq.O2 (At V) (RoAt V) V w p s' q s' [] → Calls Try.prog 22 #[Ob.ptr q, .int .i64 k] w fun e w' => e = .returned (.tuple #[.string ((Q18.get s'.came k).getD ByteArray.empty), .bool (Q18.get s'.came k).isSome]) ∧ Oq.O2 (At V) (RoAt V) V w' p s' q s' []) := fun w h => h.turn2 (S.is V) (fun F hF => ro_read V w q F s' k HKw.out hF)
              generalize (Q18.get s'.own k).getD ByteArray.empty = xa at HP1 HP2
              generalize (Q18.get s'.own k).isSome = xb at HP1 HP2
              generalize (Q18.get s'.came k).getD ByteArray.empty = xc at HP3 HP4
              generalize (Q18.get s'.came k).isSome = xd at HP3 HP4
              go_wp2_with fail
              refine (HP1.out _ HV.out).mono ?_
              rintro e z1 ⟨rfl, hq⟩
              replace HV : Hid (Oq.O2 (At V) (RoAt V) V z1 p s' q s' []) := hq
              clear hq HP1
              go_wp2_with fail
              refine (HP2.out _ HV.out).mono ?_
              rintro e z2 ⟨rfl, hq⟩
              replace HV : Hid (Oq.O2 (At V) (RoAt V) V z2 p s' q s' []) := hq
              clear hq HP2
              go_wp2_with fail
              refine (HP3.out _ HV.out).mono ?_
              rintro e z3 ⟨rfl, hq⟩
              replace HV : Hid (Oq.O2 (At V) (RoAt V) V z3 p s' q s' []) := hq
              clear hq HP3
              go_wp2_with fail
              refine (HP4.out _ HV.out).mono ?_
              rintro e z4 ⟨rfl, hq⟩
              replace HV : Hid (Oq.O2 (At V) (RoAt V) V z4 p s' q s' []) := hq
              clear hq HP4
              go_wp2_with fail
              go_roundw
              case rel => exact ⟨k + 1, by omega, by omega, rfl, HV⟩
              case measure => simp only [intOf]; omega
            · have hki : ¬ (k ≤ (len0 : Int)) := hk
              go_wp2_with fail
              go_roundw
              case rel => exact ⟨i + 1, s', by omega, rfl, HV⟩
              case measure => simp only [intOf]; omega
    · obtain rfl : i = len2 := by omega
      have ii : ¬ ((i : Int) < (i : Int)) := by omega
      have HBz : Hid (Below W.heap.size W wr) := HB0.out.trans (HV.out.bel.mono HB0.out.size)
      clear HV HEl
      go_wp2
      go_ret
      exact ⟨rfl, HBz.out⟩
end Go.Proofs.Ytkgeknkppnadfaa.objectPlays
