/- QueuePlays: for whatever number and every slice of at most sixty steps (more are let by): what each tells, and behind each all that wait, in order. -/
import Derived.Test.YtfffpaoimhmedaaVi
import Derived.Test.YtfffpaoimhmedaaVb
import Derived.Test.YtfffpaoimhmedaaHl
import Derived.Deep.CutBlock
import Derived.WalkMore
namespace Go.Proofs.Ytfffpaoimhmedaa.queuePlays
open Go.ChangeShapes Go.WideShapes Go.ChangeAt Go.RowKit
set_option linter.unusedVariables false
variable {At : Ob.A Vq.St}
theorem putE_ne (x : Int) : (x != x) = false := by simp
set_option maxRecDepth 100000 in
set_option maxHeartbeats 16000000 in
theorem walkA (S : QueueSpec At) (a0 : Int) (w0 : (Lit.int .i64 a0).wf = true) (s1 : Option Addr) (len1 cap1 : Nat) (W : World) (hin : ∃ wh ms ds, StepRow17 W s1 len1 wh ms ds) : Calls Try.prog 3 #[.int .i64 a0, .slice s1 len1 cap1] W fun e w' => e = .returned (.bool true) ∧ Below W.heap.size W w' := by
  obtain ⟨wh, ms, ds, hrow⟩ := hin
  have HEl : Hid (∀ i, i < len1 → ∃ b off, s1 = some ⟨b, off, none⟩ ∧ (∀ w', Below W.heap.size W w' → w'.cell? ⟨b, off + i * 3, none⟩ = some (.int .i64 (wh i)) ∧ w'.cell? ⟨b, off + i * 3 + 1, none⟩ = some (.int .i64 (ms i)) ∧ w'.cell? ⟨b, off + i * 3 + 2, none⟩ = some (.string (ds i))) ∧ (Lit.int .i64 (wh i)).wf = true ∧ (Lit.int .i64 (ms i)).wf = true) := fun i hi => by
    rcases hrow with h0 | ⟨b, off, hs, hc⟩
    · omega
    · obtain ⟨c1, c2, c3, w1, w2⟩ := hc i hi
      have hb := cell_lt17 c1
      exact ⟨b, off, hs, fun w' hbl => ⟨(hbl.cell (p := ⟨b, off + i * 3, none⟩) hb).trans c1, (hbl.cell (p := ⟨b, off + i * 3 + 1, none⟩) hb).trans c2, (hbl.cell (p := ⟨b, off + i * 3 + 2, none⟩) hb).trans c3⟩, w1, w2⟩
  clear hrow
  go_enter Try.func3, Try.ntmps3
  go_wp2_with fail
  refine (known17_any S _).mono ?_
  rintro e w1 ⟨rfl, hb⟩
  have HB : Hid (Below W.heap.size W w1) := hb
  clear hb
  by_cases h60 : 60 < len1
  · have h60i : (60 : Int) < (len1 : Int) := by omega
    go_wp2
    go_ret
    exact ⟨rfl, HB.out⟩
  have h60i : ¬ ((60 : Int) < (len1 : Int)) := by omega
  go_wp2_with fail
  refine (Qs.new (S.new w1 a0 w0) HB.out).mono ?_
  rintro e w2 ⟨p, rfl, hq⟩
  have HQ : Hid (Qs At W w2 p ⟨Vq.held a0, []⟩ []) := hq
  clear hq HB
  go_wp2_with fail
  refine (HQ.out.ref S a0 rfl).mono ?_
  rintro e w3 ⟨r, rfl, hq⟩
  have HV : Hid (Vp At W w3 p r ⟨Vq.held a0, []⟩ []) := hq
  clear hq HQ
  have HBl : Hid (len1 ≤ 60) := (by omega : len1 ≤ 60)
  clear h60i h60
  go_wp2_with fail
  go_loopw [7] (fun vi wr => ∃ (i : Nat) (s : Vq.St), i ≤ len1 ∧ vi = .int .i64 (i : Int) ∧ Hid (Vp At W wr p r s [])) (fun vi _ => len1 - (intOf vi).toNat)
  case atStart => exact ⟨0, _, Nat.zero_le _, rfl, HV⟩
  case round =>
    clear HV
    obtain ⟨i, s, hi, rfl, HV⟩ := hrel
    by_cases hil : i < len1
    · obtain ⟨b, off, hs1, hc, hw1, hw2⟩ := HEl.out i hil
      obtain ⟨c0, c1, c2⟩ := hc wr HV.out.bel
      have ii : (i : Int) < (len1 : Int) := by omega
      have ib : (i : Int) < 1000 := by have := HBl.out; omega
      have HMw : Hid ((Lit.int .i64 (ms i)).wf = true) := hw2
      replace HV : Hid (Vp At W (wr.alloc (.cells #[.int .i64 (wh i), .int .i64 (ms i), .string (ds i)] 29)) p r s [(wr.heap.size, .cells #[.int .i64 (wh i), .int .i64 (ms i), .string (ds i)] 29)]) := HV.out.al S _
      clear hw1 hw2 HEl hc
      subst hs1
      go_upto_region 10 with fail
      clear c0 c1 c2
      generalize wr.alloc (.cells #[.int .i64 (wh i), .int .i64 (ms i), .string (ds i)] 29) = v at HV ⊢
      generalize wr.heap.size = gs at HV ⊢
      go_wp2_with fail
      refine (HV.out.copy S).mono ?_
      rintro e w4 ⟨q, rfl, hq⟩
      have HT : Hid (Vt At W w4 p q r s s s [(gs, .cells #[.int .i64 (wh i), .int .i64 (ms i), .string (ds i)] 29)]) := hq
      clear hq HV
      have x0 := row_cells (k := 0) (HT.out.row (g := gs) (o := .cells #[.int .i64 (wh i), .int .i64 (ms i), .string (ds i)] 29) (by simp)) rfl
      generalize hwh : wh i = wx at HT x0 ⊢
      generalize hms : ms i = mx at HT HMw ⊢
      generalize hds : ds i = dx at HT ⊢
      clear hwh hms hds
      go_upto_if 39 with fail
      go_cut [] from 39 to 70 (fun wy => ∃ s' : Vq.St, Hid (Vt At W wy p q r s' s s' [(gs, .cells #[.int .i64 wx, .int .i64 mx, .string dx] 29)]))
      case first =>
        by_cases hle : wx ≤ 2
        · go_upto_region 12 with fail
          clear x0
          have HP1 : Hid (∀ w R, Vt At W w p q r s s s R → Calls Try.prog 12 #[Ob.ptr p, .int .i64 mx, .string dx] w fun e w' => e = .returned (.int .i64 (Vq.putE s)) ∧ Vt At W w' p q r (Vq.putS s ⟨mx, dx⟩) s s R) := fun w R h => h.turn S (fun F hF => S.put w p F s mx dx HMw.out hF)
          have HP2 : Hid (∀ w R s', Vt At W w p q r s' s s R → Calls Try.prog 13 #[Ob.ptr r, .int .i64 mx, .string dx] w fun e w' => e = .returned (.int .i64 (Vq.putE s)) ∧ Vt At W w' p q r s' s (Vq.putS s ⟨mx, dx⟩) R) := fun w R s' h => h.turn3 S (fun F hF => rq_puts w r F s mx dx hF)
          generalize Vq.putE s = PE at HP1 HP2
          generalize Vq.putS s ⟨mx, dx⟩ = PS at HP1 HP2
          replace HT : Hid (Vt At W w4.drew p q r s s s [(gs, .cells #[.int .i64 wx, .int .i64 mx, .string dx] 29)]) := HT.out.on S (Below.refl _ _).drew
          have HS : Hid (∀ w' : World, w'.heap[gs]? = some (.cells #[.int .i64 wx, .int .i64 mx, .string dx] 29) → w'.cell? ⟨gs, 1, none⟩ = some (.int .i64 mx) ∧ w'.cell? ⟨gs, 2, none⟩ = some (.string dx)) := fun w' h => ⟨row_cells (k := 1) h rfl, row_cells (k := 2) h rfl⟩
          refine wp_region_held_drew (S := fun w' => w'.heap[gs]? = some (.cells #[.int .i64 wx, .int .i64 mx, .string dx] 29)) (by kernel_rfl) (HT.out.row (by simp)) (fun hHeld => ?_)
          generalize w4.drew = v5 at HT hHeld ⊢
          refine Hl.takeL (i := 0) (d := 40) (v := ?_) rfl (by kernel_rfl) (by kernel_rfl) (by kernel_rfl) (fun _ _ _ h => h) (by rfl) ?_ (by first | assumption | trivial) ?_
          rotate_left
          · intro w hSw; obtain ⟨q1, q2⟩ := HS.out w hSw; go_simp; (try with_reducible rfl)
          simp only [Act.put, List.setIfInBounds_toArray, List.set_cons_zero, List.set_cons_succ]
          refine Hl.takeL (i := 1) (d := 41) (v := ?_) rfl (by kernel_rfl) (by kernel_rfl) (by kernel_rfl) (fun _ _ _ h => h) (by rfl) ?_ (by first | assumption | trivial) ?_
          rotate_left
          · intro w hSw; obtain ⟨q1, q2⟩ := HS.out w hSw; go_simp; (try with_reducible rfl)
          simp only [Act.put, List.setIfInBounds_toArray, List.set_cons_zero, List.set_cons_succ]
          refine Hl.takeL (i := 2) (d := 42) (v := ?_) rfl (by kernel_rfl) (by kernel_rfl) (by kernel_rfl) (fun _ _ _ h => h) (by rfl) ?_ (by first | assumption | trivial) ?_
          rotate_left
          · intro w hSw; obtain ⟨q1, q2⟩ := HS.out w hSw; go_simp; (try with_reducible rfl)
          simp only [Act.put, List.setIfInBounds_toArray, List.set_cons_zero, List.set_cons_succ]
          refine Hl.takeL (i := 3) (d := 43) (v := ?_) rfl (by kernel_rfl) (by kernel_rfl) (by kernel_rfl) (fun _ _ _ h => h) (by rfl) ?_ (by first | assumption | trivial) ?_
          rotate_left
          · intro w hSw; obtain ⟨q1, q2⟩ := HS.out w hSw; go_simp; (try with_reducible rfl)
          simp only [Act.put, List.setIfInBounds_toArray, List.set_cons_zero, List.set_cons_succ]
          refine Hl.takeL (i := 4) (d := 44) (v := ?_) rfl (by kernel_rfl) (by kernel_rfl) (by kernel_rfl) (fun _ _ _ h => h) (by rfl) ?_ (by first | assumption | trivial) ?_
          rotate_left
          · intro w hSw; obtain ⟨q1, q2⟩ := HS.out w hSw; go_simp; (try with_reducible rfl)
          simp only [Act.put, List.setIfInBounds_toArray, List.set_cons_zero, List.set_cons_succ]
          refine Hl.takeL (i := 6) (d := 46) (v := ?_) rfl (by kernel_rfl) (by kernel_rfl) (by kernel_rfl) (fun _ _ _ h => h) (by rfl) ?_ (by first | assumption | trivial) ?_
          rotate_left
          · intro w hSw; obtain ⟨q1, q2⟩ := HS.out w hSw; go_simp; (try with_reducible rfl)
          simp only [Act.put, List.setIfInBounds_toArray, List.set_cons_zero, List.set_cons_succ]
          refine Hl.takeL (i := 7) (d := 47) (v := ?_) rfl (by kernel_rfl) (by kernel_rfl) (by kernel_rfl) (fun _ _ _ h => h) (by rfl) ?_ (by first | assumption | trivial) ?_
          rotate_left
          · intro w hSw; obtain ⟨q1, q2⟩ := HS.out w hSw; go_simp; (try with_reducible rfl)
          simp only [Act.put, List.setIfInBounds_toArray, List.set_cons_zero, List.set_cons_succ]
          refine Hl.takeL (i := 8) (d := 48) (v := ?_) rfl (by kernel_rfl) (by kernel_rfl) (by kernel_rfl) (fun _ _ _ h => h) (by rfl) ?_ (by first | assumption | trivial) ?_
          rotate_left
          · intro w hSw; obtain ⟨q1, q2⟩ := HS.out w hSw; go_simp; (try with_reducible rfl)
          simp only [Act.put, List.setIfInBounds_toArray, List.set_cons_zero, List.set_cons_succ]
          refine Hl.takeL (i := 9) (d := 49) (v := ?_) rfl (by kernel_rfl) (by kernel_rfl) (by kernel_rfl) (fun _ _ _ h => h) (by rfl) ?_ (by first | assumption | trivial) ?_
          rotate_left
          · intro w hSw; obtain ⟨q1, q2⟩ := HS.out w hSw; go_simp; (try with_reducible rfl)
          simp only [Act.put, List.setIfInBounds_toArray, List.set_cons_zero, List.set_cons_succ]
          refine Hl.takeL (i := 10) (d := 50) (v := ?_) rfl (by kernel_rfl) (by kernel_rfl) (by kernel_rfl) (fun _ _ _ h => h) (by rfl) ?_ (by first | assumption | trivial) ?_
          rotate_left
          · intro w hSw; obtain ⟨q1, q2⟩ := HS.out w hSw; go_simp; (try with_reducible rfl)
          simp only [Act.put, List.setIfInBounds_toArray, List.set_cons_zero, List.set_cons_succ]
          refine Hl.consL (i := 5) rfl (by kernel_rfl) (fun K' hK' => ?_)
          go_simp
          refine (HP1.out _ _ HT.out).mono ?_
          rintro e v6 ⟨rfl, hq⟩
          replace HT : Hid (Vt At W v6 p q r PS s s [(gs, .cells #[.int .i64 wx, .int .i64 mx, .string dx] 29)]) := hq
          clear hq hHeld HP1
          try go_wp2_with fail
          refine hK'.out _ _ (HT.out.row (by simp)) (fun hHeld => ?_)
          clear hK' K'
          refine Hl.consL (i := 11) rfl (by kernel_rfl) (fun K' hK' => ?_)
          go_simp
          refine (HP2.out _ _ _ HT.out).mono ?_
          rintro e v7 ⟨rfl, hq⟩
          replace HT : Hid (Vt At W v7 p q r PS s PS [(gs, .cells #[.int .i64 wx, .int .i64 mx, .string dx] 29)]) := hq
          clear hq hHeld HP2
          try go_wp2_with fail
          refine hK'.out _ _ (HT.out.row (by simp)) (fun hHeld => ?_)
          clear hK' K'
          refine Hl.takeL (i := 12) (d := 52) (v := ?_) rfl (by kernel_rfl) (by kernel_rfl) (by kernel_rfl) (fun _ _ _ h => h) (by rfl) ?_ (by first | assumption | trivial) ?_
          rotate_left
          · intro w hSw; skip; go_simp; (try with_reducible rfl)
          simp only [Act.put, List.setIfInBounds_toArray, List.set_cons_zero, List.set_cons_succ]
          refine wpAnyH_done (by kernel_rfl) ?_ _
          clear hHeld HS
          go_wp2_with fail
          go_meet
          case rel => exact ⟨PS, HT⟩
        · have hgt : ¬ (wx ≤ 2) := hle
          clear HMw
          have HP1 : Hid (∀ w R, Vt At W w p q r s s s R → Calls Try.prog 14 #[Ob.ptr p] w fun e w' => e = .returned (.tuple #[.agg #[.int .i64 (Vq.hd s).msg, .string (Vq.hd s).data], .int .i64 (Vq.takeE s)]) ∧ Vt At W w' p q r (Vq.takeS s) s s R) := fun w R h => h.turn S (fun F hF => S.take w p F s hF)
          have HP2 : Hid (∀ w R s', Vt At W w p q r s' s s R → Calls Try.prog 15 #[Ob.ptr r] w fun e w' => e = .returned (.tuple #[.agg #[.int .i64 (Vq.hd s).msg, .string (Vq.hd s).data], .int .i64 (Vq.takeE s)]) ∧ Vt At W w' p q r s' s (Vq.takeS s) R) := fun w R s' h => h.turn3 S (fun F hF => rq_takes w r F s hF)
          generalize Vq.takeE s = PE at HP1 HP2
          generalize Vq.takeS s = PS at HP1 HP2
          generalize (Vq.hd s).msg = dm at HP1 HP2
          generalize (Vq.hd s).data = dd at HP1 HP2
          go_wp2_with fail
          refine (HP1.out _ _ HT.out).mono ?_
          rintro e v6 ⟨rfl, hq⟩
          replace HT : Hid (Vt At W (v6.alloc (.cells #[.int .i64 dm, .string dd] 35)) p q r PS s s ((v6.heap.size, .cells #[.int .i64 dm, .string dd] 35) :: [(gs, .cells #[.int .i64 wx, .int .i64 mx, .string dx] 29)])) := hq.al S _
          clear hq HP1 x0
          go_upto_region 15 with fail
          generalize v6.alloc (.cells #[.int .i64 dm, .string dd] 35) = v7 at HT ⊢
          generalize v6.heap.size = g7 at HT ⊢
          go_wp2_with fail
          refine (HP2.out _ _ _ HT.out).mono ?_
          rintro e v8 ⟨rfl, hq⟩
          replace HT : Hid (Vt At W (v8.alloc (.cells #[.int .i64 dm, .string dd] 35)) p q r PS s PS ((v8.heap.size, .cells #[.int .i64 dm, .string dd] 35) :: (g7, .cells #[.int .i64 dm, .string dd] 35) :: [(gs, .cells #[.int .i64 wx, .int .i64 mx, .string dx] 29)])) := hq.al S _
          clear hq HP2
          go_upto_region 16 with fail
          generalize v8.alloc (.cells #[.int .i64 dm, .string dd] 35) = v9 at HT ⊢
          generalize v8.heap.size = g9 at HT ⊢
          have a0 := row_cells (k := 0) (HT.out.row (g := g7) (o := .cells #[.int .i64 dm, .string dd] 35) (by simp)) rfl
          have a1 := row_cells (k := 1) (HT.out.row (g := g7) (o := .cells #[.int .i64 dm, .string dd] 35) (by simp)) rfl
          have b0 := row_cells (k := 0) (HT.out.row (g := g9) (o := .cells #[.int .i64 dm, .string dd] 35) (by simp)) rfl
          have b1 := row_cells (k := 1) (HT.out.row (g := g9) (o := .cells #[.int .i64 dm, .string dd] 35) (by simp)) rfl
          replace HT : Hid (Vt At W v9 p q r PS s PS [(gs, .cells #[.int .i64 wx, .int .i64 mx, .string dx] 29)]) := HT.out.less (fun x hx => by simp at hx ⊢; exact Or.inr (Or.inr hx))
          go_wp2_with fail
          go_meet
          case rel => exact ⟨PS, HT⟩
      case rest =>
        clear HT x0 HMw
        obtain ⟨s', HT⟩ := hcut
        have HP1 : Hid (∀ w R t, Vt At W w p q r s' t s' R → Calls Try.prog 12 #[Ob.ptr q, .int .i64 99, .string ⟨#[111, 116, 104, 101, 114]⟩] w fun e w' => e = .returned (.int .i64 (Vq.putE t)) ∧ Vt At W w' p q r s' (Vq.putS t ⟨99, ⟨#[111, 116, 104, 101, 114]⟩⟩) s' R) := fun w R t h => h.turn2 S (fun F hF => S.put w q F t 99 _ (by decide) hF)
        have HP2 : Hid (∀ w R t, Vt At W w p q r s' t s' R → Calls Try.prog 14 #[Ob.ptr q] w fun e w' => e = .returned (.tuple #[dV (Vq.hd t), .int .i64 (Vq.takeE t)]) ∧ Vt At W w' p q r s' (Vq.takeS t) s' R) := fun w R t h => h.turn2 S (fun F hF => S.take w q F t hF)
        go_wp2_with fail
        refine (HP1.out _ _ _ HT.out).mono ?_
        rintro e v6 ⟨rfl, hq⟩
        generalize Vq.putE s = pe0
        generalize Vq.putS s ⟨99, ⟨#[111, 116, 104, 101, 114]⟩⟩ = s2 at hq
        replace HT : Hid (Vt At W v6 p q r s' s2 s' [(gs, .cells #[.int .i64 wx, .int .i64 mx, .string dx] 29)]) := hq
        clear hq HP1
        go_wp2_with fail
        refine (HP2.out _ _ _ HT.out).mono ?_
        rintro e v7 ⟨rfl, hq⟩
        have HV : Hid (Vp At W v7 p r s' []) := (hq.drop).less (fun x hx => by cases hx)
        clear hq HP2 HT
        generalize dV (Vq.hd s2) = hv0
        generalize Vq.takeE s2 = te0
        obtain ⟨a, c, R', hac, hL, hQ, hun⟩ := HV.out.freeze S
        have hOk := HV.out.ok
        obtain ⟨room, l⟩ := s'
        dsimp only at hac hL hQ hun
        have hll : l.length ≤ 4 := by obtain ⟨_, h1, h2⟩ := hOk; exact Nat.le_trans h2 h1
        have HL : Hid (Lst ((r, .cells #[.int .i64 (room : Int), .slice a l.length c] 45) :: R') a c l.length (l.flatMap dC)) := hL
        have HQ : Hid (Qs At W v7 p ⟨room, l⟩ ((r, .cells #[.int .i64 (room : Int), .slice a l.length c] 45) :: R')) := by rw [List.append_nil] at hQ; exact hQ
        have HU : Hid (∀ w' R2, Qs At W w' p ⟨room, l⟩ R2 → (∀ x ∈ (r, .cells #[.int .i64 (room : Int), .slice a l.length c] 45) :: R', x ∈ R2) → Vp At W w' p r ⟨room, l⟩ []) := hun
        clear hun hQ hL hOk HV
        have HH : Hid (∀ w R, Qs At W w p ⟨room, l⟩ R → Calls Try.prog 16 #[Ob.ptr p] w fun e w' => e = .returned (.tuple #[.agg #[.int .i64 (Vq.hd ⟨room, l⟩).msg, .string (Vq.hd ⟨room, l⟩).data], .bool (decide (0 < l.length))]) ∧ Qs At W w' p ⟨room, l⟩ R) := fun w R h => Qs.turn (fun F hF => S.head w p F _ hF) h
        have HLn : Hid (∀ w R, Qs At W w p ⟨room, l⟩ R → Calls Try.prog 17 #[Ob.ptr p] w fun e w' => e = .returned (.int .i64 (l.length : Int)) ∧ Qs At W w' p ⟨room, l⟩ R) := fun w R h => Qs.turn (fun F hF => S.len w p F _ hF) h
        have HAl : Hid (∀ w R, Qs At W w p ⟨room, l⟩ R → Calls Try.prog 19 #[Ob.ptr p] w fun e w' => ∃ a c R', e = .returned (.slice a l.length c) ∧ Lst R' a c l.length (l.flatMap dC) ∧ Qs At W w' p ⟨room, l⟩ (R' ++ R)) := fun w R h => Qs.all S h
        have HSm : Hid (∀ w a2 c2, LI w a2 c2 l.length (l.flatMap dC) → LI w a c l.length (l.flatMap dC) → Calls Try.prog 18 #[.slice a2 l.length c2, .slice a l.length c] w fun e w' => e = .returned (.bool true) ∧ Below w.heap.size w w') := fun w a2 c2 h1 h2 => same17_any w l l.length a2 a c2 c rfl h1 h2 (by omega)
        go_wp2_with fail
        refine (HH.out _ _ HQ.out).mono ?_
        rintro e v8 ⟨rfl, hq⟩
        clear HQ HH
        generalize hdm : (Vq.hd ⟨room, l⟩).msg = dm at hq ⊢
        generalize hdd : (Vq.hd ⟨room, l⟩).data = dd at hq ⊢
        have HDm : Hid ((Vq.hd ⟨room, l⟩).msg = dm) := hdm
        have HDd : Hid ((Vq.hd ⟨room, l⟩).data = dd) := hdd
        have HQ : Hid (Qs At W (v8.alloc (.cells #[.int .i64 dm, .string dd] 35)) p ⟨room, l⟩ ((v8.heap.size, .cells #[.int .i64 dm, .string dd] 35) :: (r, .cells #[.int .i64 (room : Int), .slice a l.length c] 45) :: R')) := hq.al S _
        clear hq hdm hdd
        go_upto_region 21 with fail
        generalize v8.alloc (.cells #[.int .i64 dm, .string dd] 35) = v9 at HQ ⊢
        generalize v8.heap.size = g9 at HQ ⊢
        replace HQ : Hid (Qs At W v9.drew p ⟨room, l⟩ ((g9, .cells #[.int .i64 dm, .string dd] 35) :: (r, .cells #[.int .i64 (room : Int), .slice a l.length c] 45) :: R')) := HQ.out.on S (Below.refl _ _).drew
        cases l with
        | nil =>
          simp only [List.length_nil] at HQ HL HU HLn HAl HSm hac hll ⊢
          obtain rfl : dm = 0 := HDm.out.symm
          obtain rfl : dd = ⟨#[]⟩ := HDd.out.symm
          have HS : Hid (∀ w', Rows17 ((g9, .cells #[.int .i64 0, .string ⟨#[]⟩] 35) :: (r, .cells #[.int .i64 (room : Int), .slice a 0 c] 45) :: R') w' → w'.cell? ⟨r, 1, none⟩ = some (.slice a 0 c) ∧ w'.cell? ⟨g9, 0, none⟩ = some (.int .i64 0) ∧ w'.cell? ⟨g9, 1, none⟩ = some (.string ⟨#[]⟩)) := fun w' h => by
            have h1 := h (r, .cells #[.int .i64 (room : Int), .slice a 0 c] 45) (by simp)
            have h2 := h (g9, .cells #[.int .i64 0, .string ⟨#[]⟩] 35) (by simp)
            exact ⟨row_cells (k := 1) h1 rfl, row_cells (k := 0) h2 rfl, row_cells (k := 1) h2 rfl⟩
          
          refine wp_region_held_drew (S := Rows17 ((g9, .cells #[.int .i64 0, .string ⟨#[]⟩] 35) :: (r, .cells #[.int .i64 (room : Int), .slice a 0 c] 45) :: R')) (by kernel_rfl) HQ.out.rows (fun hHeld => ?_)
          generalize v9.drew = y0 at HQ hHeld ⊢
          refine Hl.takeL (i := 0) (d := 80) (v := ?_) rfl (by kernel_rfl) (by kernel_rfl) (by kernel_rfl) (fun _ _ _ h => h) (by rfl) ?_ (by first | assumption | trivial) ?_
          rotate_left
          · intro w hSw; obtain ⟨q1, q2, q3⟩ := HS.out w hSw; go_simp; (try with_reducible rfl)
          simp only [Act.put, List.setIfInBounds_toArray, List.set_cons_zero, List.set_cons_succ]
          refine Hl.takeL (i := 2) (d := 82) (v := ?_) rfl (by kernel_rfl) (by kernel_rfl) (by kernel_rfl) (fun _ _ _ h => h) (by rfl) ?_ (by first | assumption | trivial) ?_
          rotate_left
          · intro w hSw; obtain ⟨q1, q2, q3⟩ := HS.out w hSw; go_simp; (try with_reducible rfl)
          simp only [Act.put, List.setIfInBounds_toArray, List.set_cons_zero, List.set_cons_succ]
          refine Hl.takeL (i := 3) (d := 83) (v := ?_) rfl (by kernel_rfl) (by kernel_rfl) (by kernel_rfl) (fun _ _ _ h => h) (by rfl) ?_ (by first | assumption | trivial) ?_
          rotate_left
          · intro w hSw; obtain ⟨q1, q2, q3⟩ := HS.out w hSw; go_simp; (try with_reducible rfl)
          simp only [Act.put, List.setIfInBounds_toArray, List.set_cons_zero, List.set_cons_succ]
          refine Hl.takeL (i := 4) (d := 84) (v := ?_) rfl (by kernel_rfl) (by kernel_rfl) (by kernel_rfl) (fun _ _ _ h => h) (by rfl) ?_ (by first | assumption | trivial) ?_
          rotate_left
          · intro w hSw; obtain ⟨q1, q2, q3⟩ := HS.out w hSw; go_simp; (try with_reducible rfl)
          simp only [Act.put, List.setIfInBounds_toArray, List.set_cons_zero, List.set_cons_succ]
          refine Hl.takeL (i := 5) (d := 85) (v := ?_) rfl (by kernel_rfl) (by kernel_rfl) (by kernel_rfl) (fun _ _ _ h => h) (by rfl) ?_ (by first | assumption | trivial) ?_
          rotate_left
          · intro w hSw; obtain ⟨q1, q2, q3⟩ := HS.out w hSw; go_simp; (try with_reducible rfl)
          simp only [Act.put, List.setIfInBounds_toArray, List.set_cons_zero, List.set_cons_succ]
          refine Hl.takeL (i := 6) (d := 86) (v := ?_) rfl (by kernel_rfl) (by kernel_rfl) (by kernel_rfl) (fun _ _ _ h => h) (by rfl) ?_ (by first | assumption | trivial) ?_
          rotate_left
          · intro w hSw; obtain ⟨q1, q2, q3⟩ := HS.out w hSw; go_simp; (try with_reducible rfl)
          simp only [Act.put, List.setIfInBounds_toArray, List.set_cons_zero, List.set_cons_succ]
          refine Hl.consL (i := 1) rfl (by kernel_rfl) (fun K' hK' => ?_)
          go_simp
          refine (HLn.out _ _ HQ.out).mono ?_
          rintro e y1 ⟨rfl, hq⟩
          replace HQ : Hid (Qs At W y1 p ⟨room, []⟩ ((g9, .cells #[.int .i64 0, .string ⟨#[]⟩] 35) :: (r, .cells #[.int .i64 (room : Int), .slice a 0 c] 45) :: R')) := hq
          clear hq hHeld HLn
          try go_wp2_with fail
          refine hK'.out _ _ HQ.out.rows (fun hHeld => ?_)
          clear hK' K'
          refine Hl.takeL (i := 7) (d := 87) (v := ?_) rfl (by kernel_rfl) (by kernel_rfl) (by kernel_rfl) (fun _ _ _ h => h) (by rfl) ?_ (by first | assumption | trivial) ?_
          rotate_left
          · intro w hSw; obtain ⟨q1, q2, q3⟩ := HS.out w hSw; go_simp; (try with_reducible rfl)
          simp only [Act.put, List.setIfInBounds_toArray, List.set_cons_zero, List.set_cons_succ]
          refine Hl.takeL (i := 8) (d := 88) (v := ?_) rfl (by kernel_rfl) (by kernel_rfl) (by kernel_rfl) (fun _ _ _ h => h) (by rfl) ?_ (by first | assumption | trivial) ?_
          rotate_left
          · intro w hSw; obtain ⟨q1, q2, q3⟩ := HS.out w hSw; go_simp; (try with_reducible rfl)
          simp only [Act.put, List.setIfInBounds_toArray, List.set_cons_zero, List.set_cons_succ]
          refine Hl.takeL (i := 9) (d := 89) (v := ?_) rfl (by kernel_rfl) (by kernel_rfl) (by kernel_rfl) (fun _ _ _ h => h) (by rfl) ?_ (by first | assumption | trivial) ?_
          rotate_left
          · intro w hSw; obtain ⟨q1, q2, q3⟩ := HS.out w hSw; go_simp; (try with_reducible rfl)
          simp only [Act.put, List.setIfInBounds_toArray, List.set_cons_zero, List.set_cons_succ]
          refine Hl.takeL (i := 11) (d := 91) (v := ?_) rfl (by kernel_rfl) (by kernel_rfl) (by kernel_rfl) (fun _ _ _ h => h) (by rfl) ?_ (by first | assumption | trivial) ?_
          rotate_left
          · intro w hSw; obtain ⟨q1, q2, q3⟩ := HS.out w hSw; go_simp; (try with_reducible rfl)
          simp only [Act.put, List.setIfInBounds_toArray, List.set_cons_zero, List.set_cons_succ]
          refine Hl.takeL (i := 12) (d := 92) (v := ?_) rfl (by kernel_rfl) (by kernel_rfl) (by kernel_rfl) (fun _ _ _ h => h) (by rfl) ?_ (by first | assumption | trivial) ?_
          rotate_left
          · intro w hSw; obtain ⟨q1, q2, q3⟩ := HS.out w hSw; go_simp; (try with_reducible rfl)
          simp only [Act.put, List.setIfInBounds_toArray, List.set_cons_zero, List.set_cons_succ]
          refine Hl.takeL (i := 13) (d := 93) (v := ?_) rfl (by kernel_rfl) (by kernel_rfl) (by kernel_rfl) (fun _ _ _ h => h) (by rfl) ?_ (by first | assumption | trivial) ?_
          rotate_left
          · intro w hSw; obtain ⟨q1, q2, q3⟩ := HS.out w hSw; go_simp; (try with_reducible rfl)
          simp only [Act.put, List.setIfInBounds_toArray, List.set_cons_zero, List.set_cons_succ]
          refine Hl.takeL (i := 14) (d := 94) (v := ?_) rfl (by kernel_rfl) (by kernel_rfl) (by kernel_rfl) (fun _ _ _ h => h) (by rfl) ?_ (by first | assumption | trivial) ?_
          rotate_left
          · intro w hSw; obtain ⟨q1, q2, q3⟩ := HS.out w hSw; go_simp; (try with_reducible rfl)
          simp only [Act.put, List.setIfInBounds_toArray, List.set_cons_zero, List.set_cons_succ]
          refine Hl.consL (i := 10) rfl (by kernel_rfl) (fun K' hK' => ?_)
          go_simp
          refine (HAl.out _ _ HQ.out).mono ?_
          rintro e y2 ⟨a2, c2, R2, rfl, hl2, hq⟩
          have HL2 : Hid (LI y2 a2 c2 0 ([].flatMap dC) ∧ LI y2 a c 0 ([].flatMap dC)) := ⟨hl2.li (fun x hx => hq.rows x (List.mem_append_left _ hx)), HL.out.li (fun x hx => hq.rows x (List.mem_append_right _ (List.mem_cons_of_mem _ hx)))⟩
          replace HQ : Hid (Qs At W y2 p ⟨room, []⟩ ((g9, .cells #[.int .i64 0, .string ⟨#[]⟩] 35) :: (r, .cells #[.int .i64 (room : Int), .slice a 0 c] 45) :: R')) := hq.less (fun x hx => List.mem_append_right _ hx)
          clear hq hHeld HAl hl2
          try go_wp2_with fail
          refine hK'.out _ _ HQ.out.rows (fun hHeld => ?_)
          clear hK' K'
          refine Hl.consL (i := 15) rfl (by kernel_rfl) (fun K' hK' => ?_)
          go_simp
          refine (HSm.out _ a2 c2 HL2.out.1 HL2.out.2).mono ?_
          rintro e y3 ⟨rfl, hb⟩
          replace HQ : Hid (Qs At W y3 p ⟨room, []⟩ ((g9, .cells #[.int .i64 0, .string ⟨#[]⟩] 35) :: (r, .cells #[.int .i64 (room : Int), .slice a 0 c] 45) :: R')) := HQ.out.on S hb
          clear hb hHeld HSm HL2
          try go_wp2_with fail
          refine hK'.out _ _ HQ.out.rows (fun hHeld => ?_)
          clear hK' K'
          refine Hl.takeL (i := 16) (d := 96) (v := ?_) rfl (by kernel_rfl) (by kernel_rfl) (by kernel_rfl) (fun _ _ _ h => h) (by rfl) ?_ (by first | assumption | trivial) ?_
          rotate_left
          · intro w hSw; obtain ⟨q1, q2, q3⟩ := HS.out w hSw; go_simp; (try with_reducible rfl)
          simp only [Act.put, List.setIfInBounds_toArray, List.set_cons_zero, List.set_cons_succ]
          refine Hl.takeL (i := 17) (d := 97) (v := ?_) rfl (by kernel_rfl) (by kernel_rfl) (by kernel_rfl) (fun _ _ _ h => h) (by rfl) ?_ (by first | assumption | trivial) ?_
          rotate_left
          · intro w hSw; obtain ⟨q1, q2, q3⟩ := HS.out w hSw; go_simp; (try with_reducible rfl)
          simp only [Act.put, List.setIfInBounds_toArray, List.set_cons_zero, List.set_cons_succ]
          refine Hl.takeL (i := 18) (d := 98) (v := ?_) rfl (by kernel_rfl) (by kernel_rfl) (by kernel_rfl) (fun _ _ _ h => h) (by rfl) ?_ (by first | assumption | trivial) ?_
          rotate_left
          · intro w hSw; obtain ⟨q1, q2, q3⟩ := HS.out w hSw; go_simp; (try with_reducible rfl)
          simp only [Act.put, List.setIfInBounds_toArray, List.set_cons_zero, List.set_cons_succ]
          refine Hl.takeL (i := 19) (d := 99) (v := ?_) rfl (by kernel_rfl) (by kernel_rfl) (by kernel_rfl) (fun _ _ _ h => h) (by rfl) ?_ (by first | assumption | trivial) ?_
          rotate_left
          · intro w hSw; obtain ⟨q1, q2, q3⟩ := HS.out w hSw; go_simp; (try with_reducible rfl)
          simp only [Act.put, List.setIfInBounds_toArray, List.set_cons_zero, List.set_cons_succ]
          refine Hl.takeL (i := 20) (d := 100) (v := ?_) rfl (by kernel_rfl) (by kernel_rfl) (by kernel_rfl) (fun _ _ _ h => h) (by rfl) ?_ (by first | assumption | trivial) ?_
          rotate_left
          · intro w hSw; obtain ⟨q1, q2, q3⟩ := HS.out w hSw; go_simp; (try with_reducible rfl)
          simp only [Act.put, List.setIfInBounds_toArray, List.set_cons_zero, List.set_cons_succ]
          refine Hl.takeL (i := 21) (d := 101) (v := ?_) rfl (by kernel_rfl) (by kernel_rfl) (by kernel_rfl) (fun _ _ _ h => h) (by rfl) ?_ (by first | assumption | trivial) ?_
          rotate_left
          · intro w hSw; obtain ⟨q1, q2, q3⟩ := HS.out w hSw; go_simp; (try with_reducible rfl)
          simp only [Act.put, List.setIfInBounds_toArray, List.set_cons_zero, List.set_cons_succ]
          refine Hl.takeL (i := 22) (d := 102) (v := ?_) rfl (by kernel_rfl) (by kernel_rfl) (by kernel_rfl) (fun _ _ _ h => h) (by rfl) ?_ (by first | assumption | trivial) ?_
          rotate_left
          · intro w hSw; obtain ⟨q1, q2, q3⟩ := HS.out w hSw; go_simp; (try with_reducible rfl)
          simp only [Act.put, List.setIfInBounds_toArray, List.set_cons_zero, List.set_cons_succ]
          refine Hl.takeL (i := 23) (d := 103) (v := ?_) rfl (by kernel_rfl) (by kernel_rfl) (by kernel_rfl) (fun _ _ _ h => h) (by rfl) ?_ (by first | assumption | trivial) ?_
          rotate_left
          · intro w hSw; obtain ⟨q1, q2, q3⟩ := HS.out w hSw; go_simp; (try with_reducible rfl)
          simp only [Act.put, List.setIfInBounds_toArray, List.set_cons_zero, List.set_cons_succ]
          refine Hl.takeL (i := 24) (d := 104) (v := ?_) rfl (by kernel_rfl) (by kernel_rfl) (by kernel_rfl) (fun _ _ _ h => h) (by rfl) ?_ (by first | assumption | trivial) ?_
          rotate_left
          · intro w hSw; obtain ⟨q1, q2, q3⟩ := HS.out w hSw; go_simp; (try with_reducible rfl)
          simp only [Act.put, List.setIfInBounds_toArray, List.set_cons_zero, List.set_cons_succ]
          refine Hl.takeL (i := 25) (d := 105) (v := ?_) rfl (by kernel_rfl) (by kernel_rfl) (by kernel_rfl) (fun _ _ _ h => h) (by rfl) ?_ (by first | assumption | trivial) ?_
          rotate_left
          · intro w hSw; obtain ⟨q1, q2, q3⟩ := HS.out w hSw; go_simp; (try with_reducible rfl)
          simp only [Act.put, List.setIfInBounds_toArray, List.set_cons_zero, List.set_cons_succ]
          refine Hl.takeL (i := 26) (d := 106) (v := ?_) rfl (by kernel_rfl) (by kernel_rfl) (by kernel_rfl) (fun _ _ _ h => h) (by rfl) ?_ (by first | assumption | trivial) ?_
          rotate_left
          · intro w hSw; obtain ⟨q1, q2, q3⟩ := HS.out w hSw; go_simp; (try with_reducible rfl)
          simp only [Act.put, List.setIfInBounds_toArray, List.set_cons_zero, List.set_cons_succ]
          refine Hl.takeL (i := 27) (d := 107) (v := ?_) rfl (by kernel_rfl) (by kernel_rfl) (by kernel_rfl) (fun _ _ _ h => h) (by rfl) ?_ (by first | assumption | trivial) ?_
          rotate_left
          · intro w hSw; obtain ⟨q1, q2, q3⟩ := HS.out w hSw; go_simp; (try with_reducible rfl)
          simp only [Act.put, List.setIfInBounds_toArray, List.set_cons_zero, List.set_cons_succ]
          refine Hl.takeL (i := 28) (d := 108) (v := ?_) rfl (by kernel_rfl) (by kernel_rfl) (by kernel_rfl) (fun _ _ _ h => h) (by rfl) ?_ (by first | assumption | trivial) ?_
          rotate_left
          · intro w hSw; obtain ⟨q1, q2, q3⟩ := HS.out w hSw; go_simp; (try with_reducible rfl)
          simp only [Act.put, List.setIfInBounds_toArray, List.set_cons_zero, List.set_cons_succ]
          refine Hl.takeL (i := 29) (d := 109) (v := ?_) rfl (by kernel_rfl) (by kernel_rfl) (by kernel_rfl) (fun _ _ _ h => h) (by rfl) ?_ (by first | assumption | trivial) ?_
          rotate_left
          · intro w hSw; obtain ⟨q1, q2, q3⟩ := HS.out w hSw; go_simp; (try with_reducible rfl)
          simp only [Act.put, List.setIfInBounds_toArray, List.set_cons_zero, List.set_cons_succ]
          refine Hl.takeL (i := 30) (d := 110) (v := ?_) rfl (by kernel_rfl) (by kernel_rfl) (by kernel_rfl) (fun _ _ _ h => h) (by rfl) ?_ (by first | assumption | trivial) ?_
          rotate_left
          · intro w hSw; obtain ⟨q1, q2, q3⟩ := HS.out w hSw; go_simp; (try with_reducible rfl)
          simp only [Act.put, List.setIfInBounds_toArray, List.set_cons_zero, List.set_cons_succ]
          refine skipL (i := 31) (d := 111) rfl (by kernel_rfl) (by kernel_rfl) (by kernel_rfl) (fun _ _ _ h => h) (by rfl) (by first | assumption | trivial) ?_
          simp only [Act.put, List.setIfInBounds_toArray, List.set_cons_zero, List.set_cons_succ]
          refine skipL (i := 32) (d := 112) rfl (by kernel_rfl) (by kernel_rfl) (by kernel_rfl) (fun _ _ _ h => h) (by rfl) (by first | assumption | trivial) ?_
          simp only [Act.put, List.setIfInBounds_toArray, List.set_cons_zero, List.set_cons_succ]
          refine skipL (i := 33) (d := 113) rfl (by kernel_rfl) (by kernel_rfl) (by kernel_rfl) (fun _ _ _ h => h) (by rfl) (by first | assumption | trivial) ?_
          simp only [Act.put, List.setIfInBounds_toArray, List.set_cons_zero, List.set_cons_succ]
          refine skipL (i := 34) (d := 114) rfl (by kernel_rfl) (by kernel_rfl) (by kernel_rfl) (fun _ _ _ h => h) (by rfl) (by first | assumption | trivial) ?_
          simp only [Act.put, List.setIfInBounds_toArray, List.set_cons_zero, List.set_cons_succ]
          refine skipL (i := 35) (d := 115) rfl (by kernel_rfl) (by kernel_rfl) (by kernel_rfl) (fun _ _ _ h => h) (by rfl) (by first | assumption | trivial) ?_
          simp only [Act.put, List.setIfInBounds_toArray, List.set_cons_zero, List.set_cons_succ]
          refine skipL (i := 36) (d := 116) rfl (by kernel_rfl) (by kernel_rfl) (by kernel_rfl) (fun _ _ _ h => h) (by rfl) (by first | assumption | trivial) ?_
          simp only [Act.put, List.setIfInBounds_toArray, List.set_cons_zero, List.set_cons_succ]
          refine skipL (i := 37) (d := 117) rfl (by kernel_rfl) (by kernel_rfl) (by kernel_rfl) (fun _ _ _ h => h) (by rfl) (by first | assumption | trivial) ?_
          simp only [Act.put, List.setIfInBounds_toArray, List.set_cons_zero, List.set_cons_succ]
          refine skipL (i := 38) (d := 118) rfl (by kernel_rfl) (by kernel_rfl) (by kernel_rfl) (fun _ _ _ h => h) (by rfl) (by first | assumption | trivial) ?_
          simp only [Act.put, List.setIfInBounds_toArray, List.set_cons_zero, List.set_cons_succ]
          refine Hl.takeL (i := 39) (d := 119) (v := ?_) rfl (by kernel_rfl) (by kernel_rfl) (by kernel_rfl) (fun _ _ _ h => h) (by rfl) ?_ (by first | assumption | trivial) ?_
          rotate_left
          · intro w hSw; obtain ⟨q1, q2, q3⟩ := HS.out w hSw; go_simp; (try with_reducible rfl)
          simp only [Act.put, List.setIfInBounds_toArray, List.set_cons_zero, List.set_cons_succ]
          refine Hl.takeL (i := 40) (d := 120) (v := ?_) rfl (by kernel_rfl) (by kernel_rfl) (by kernel_rfl) (fun _ _ _ h => h) (by rfl) ?_ (by first | assumption | trivial) ?_
          rotate_left
          · intro w hSw; obtain ⟨q1, q2, q3⟩ := HS.out w hSw; go_simp; (try with_reducible rfl)
          simp only [Act.put, List.setIfInBounds_toArray, List.set_cons_zero, List.set_cons_succ]
          refine Hl.takeL (i := 41) (d := 121) (v := ?_) rfl (by kernel_rfl) (by kernel_rfl) (by kernel_rfl) (fun _ _ _ h => h) (by rfl) ?_ (by first | assumption | trivial) ?_
          rotate_left
          · intro w hSw; obtain ⟨q1, q2, q3⟩ := HS.out w hSw; go_simp; (try with_reducible rfl)
          simp only [Act.put, List.setIfInBounds_toArray, List.set_cons_zero, List.set_cons_succ]
          refine Hl.takeL (i := 42) (d := 122) (v := ?_) rfl (by kernel_rfl) (by kernel_rfl) (by kernel_rfl) (fun _ _ _ h => h) (by rfl) ?_ (by first | assumption | trivial) ?_
          rotate_left
          · intro w hSw; obtain ⟨q1, q2, q3⟩ := HS.out w hSw; go_simp; (try with_reducible rfl)
          simp only [Act.put, List.setIfInBounds_toArray, List.set_cons_zero, List.set_cons_succ]
          refine Hl.takeL (i := 43) (d := 123) (v := ?_) rfl (by kernel_rfl) (by kernel_rfl) (by kernel_rfl) (fun _ _ _ h => h) (by rfl) ?_ (by first | assumption | trivial) ?_
          rotate_left
          · intro w hSw; obtain ⟨q1, q2, q3⟩ := HS.out w hSw; go_simp; (try with_reducible rfl)
          simp only [Act.put, List.setIfInBounds_toArray, List.set_cons_zero, List.set_cons_succ]
          refine Hl.takeL (i := 44) (d := 124) (v := ?_) rfl (by kernel_rfl) (by kernel_rfl) (by kernel_rfl) (fun _ _ _ h => h) (by rfl) ?_ (by first | assumption | trivial) ?_
          rotate_left
          · intro w hSw; obtain ⟨q1, q2, q3⟩ := HS.out w hSw; go_simp; (try with_reducible rfl)
          simp only [Act.put, List.setIfInBounds_toArray, List.set_cons_zero, List.set_cons_succ]
          refine Hl.takeL (i := 45) (d := 125) (v := ?_) rfl (by kernel_rfl) (by kernel_rfl) (by kernel_rfl) (fun _ _ _ h => h) (by rfl) ?_ (by first | assumption | trivial) ?_
          rotate_left
          · intro w hSw; obtain ⟨q1, q2, q3⟩ := HS.out w hSw; go_simp; (try with_reducible rfl)
          simp only [Act.put, List.setIfInBounds_toArray, List.set_cons_zero, List.set_cons_succ]
          refine Hl.takeL (i := 46) (d := 126) (v := ?_) rfl (by kernel_rfl) (by kernel_rfl) (by kernel_rfl) (fun _ _ _ h => h) (by rfl) ?_ (by first | assumption | trivial) ?_
          rotate_left
          · intro w hSw; obtain ⟨q1, q2, q3⟩ := HS.out w hSw; go_simp; (try with_reducible rfl)
          simp only [Act.put, List.setIfInBounds_toArray, List.set_cons_zero, List.set_cons_succ]
          refine Hl.takeL (i := 47) (d := 127) (v := ?_) rfl (by kernel_rfl) (by kernel_rfl) (by kernel_rfl) (fun _ _ _ h => h) (by rfl) ?_ (by first | assumption | trivial) ?_
          rotate_left
          · intro w hSw; obtain ⟨q1, q2, q3⟩ := HS.out w hSw; go_simp; (try with_reducible rfl)
          simp only [Act.put, List.setIfInBounds_toArray, List.set_cons_zero, List.set_cons_succ]
          refine Hl.takeL (i := 48) (d := 128) (v := ?_) rfl (by kernel_rfl) (by kernel_rfl) (by kernel_rfl) (fun _ _ _ h => h) (by rfl) ?_ (by first | assumption | trivial) ?_
          rotate_left
          · intro w hSw; obtain ⟨q1, q2, q3⟩ := HS.out w hSw; go_simp; (try with_reducible rfl)
          simp only [Act.put, List.setIfInBounds_toArray, List.set_cons_zero, List.set_cons_succ]
          refine Hl.takeL (i := 49) (d := 129) (v := ?_) rfl (by kernel_rfl) (by kernel_rfl) (by kernel_rfl) (fun _ _ _ h => h) (by rfl) ?_ (by first | assumption | trivial) ?_
          rotate_left
          · intro w hSw; obtain ⟨q1, q2, q3⟩ := HS.out w hSw; go_simp; (try with_reducible rfl)
          simp only [Act.put, List.setIfInBounds_toArray, List.set_cons_zero, List.set_cons_succ]
          refine wpAnyH_done (by kernel_rfl) ?_ _
          clear hHeld HS
          have HVn : Hid (Vp At W y3 p r ⟨room, []⟩ []) := HU.out y3 _ HQ.out (fun x hx => List.mem_cons_of_mem _ hx)
          clear HU HQ HL
          go_wp2_with fail
          go_roundw
          case rel => exact ⟨i + 1, _, by omega, rfl, HVn⟩
          case measure => simp only [intOf]; omega
        | cons e0 l =>
          simp only [List.length_cons] at HQ HL HU HLn HAl HSm hac hll ⊢
          obtain ⟨em, ed⟩ := e0
          obtain rfl : em = dm := HDm.out
          obtain rfl : ed = dd := HDd.out
          have hnn : (0 : Int) < (l.length : Int) + 1 := by omega
          have hn0 : ¬ ((l.length : Int) + 1 = 0) := by omega
          obtain ⟨g, o, ha, hfst⟩ : ∃ g o, a = some ⟨g, o, none⟩ ∧ ∀ w', Rows17 ((r, .cells #[.int .i64 (room : Int), .slice a (l.length + 1) c] 45) :: R') w' → w'.cell? ⟨g, o, none⟩ = some (.int .i64 em) ∧ w'.cell? ⟨g, o + 1, none⟩ = some (.string ed) := by
            rcases HL.out.2.2 with h0 | ⟨g, o, b, h1, h2, h3⟩
            · exact absurd h0 (by omega)
            · exact ⟨g, o, h1, fun w' hr => ⟨by have := h3 w' (hr _ h2) 0 _ rfl; rwa [Nat.add_zero] at this, h3 w' (hr _ h2) 1 _ rfl⟩⟩
          subst ha
          have HS : Hid (∀ w', Rows17 ((g9, .cells #[.int .i64 em, .string ed] 35) :: (r, .cells #[.int .i64 (room : Int), .slice (some ⟨g, o, none⟩) (l.length + 1) c] 45) :: R') w' → w'.cell? ⟨r, 1, none⟩ = some (.slice (some ⟨g, o, none⟩) (l.length + 1) c) ∧ w'.cell? ⟨g9, 0, none⟩ = some (.int .i64 em) ∧ w'.cell? ⟨g9, 1, none⟩ = some (.string ed) ∧ w'.cell? ⟨g, o, none⟩ = some (.int .i64 em) ∧ w'.cell? ⟨g, o + 1, none⟩ = some (.string ed)) := fun w' h => by
            have h1 := h (r, .cells #[.int .i64 (room : Int), .slice (some ⟨g, o, none⟩) (l.length + 1) c] 45) (by simp)
            have h2 := h (g9, .cells #[.int .i64 em, .string ed] 35) (by simp)
            exact ⟨row_cells (k := 1) h1 rfl, row_cells (k := 0) h2 rfl, row_cells (k := 1) h2 rfl, hfst w' (h.more (fun x hx => List.mem_cons_of_mem _ hx))⟩
          clear hfst
          refine wp_region_held_drew (S := Rows17 ((g9, .cells #[.int .i64 em, .string ed] 35) :: (r, .cells #[.int .i64 (room : Int), .slice (some ⟨g, o, none⟩) (l.length + 1) c] 45) :: R')) (by kernel_rfl) HQ.out.rows (fun hHeld => ?_)
          generalize v9.drew = y0 at HQ hHeld ⊢
          refine Hl.takeL (i := 0) (d := 80) (v := ?_) rfl (by kernel_rfl) (by kernel_rfl) (by kernel_rfl) (fun _ _ _ h => h) (by rfl) ?_ (by first | assumption | trivial) ?_
          rotate_left
          · intro w hSw; obtain ⟨q1, q2, q3, q4, q5⟩ := HS.out w hSw; go_simp; (try with_reducible rfl)
          simp only [Act.put, List.setIfInBounds_toArray, List.set_cons_zero, List.set_cons_succ]
          refine Hl.takeL (i := 2) (d := 82) (v := ?_) rfl (by kernel_rfl) (by kernel_rfl) (by kernel_rfl) (fun _ _ _ h => h) (by rfl) ?_ (by first | assumption | trivial) ?_
          rotate_left
          · intro w hSw; obtain ⟨q1, q2, q3, q4, q5⟩ := HS.out w hSw; go_simp; (try with_reducible rfl)
          simp only [Act.put, List.setIfInBounds_toArray, List.set_cons_zero, List.set_cons_succ]
          refine Hl.takeL (i := 3) (d := 83) (v := ?_) rfl (by kernel_rfl) (by kernel_rfl) (by kernel_rfl) (fun _ _ _ h => h) (by rfl) ?_ (by first | assumption | trivial) ?_
          rotate_left
          · intro w hSw; obtain ⟨q1, q2, q3, q4, q5⟩ := HS.out w hSw; go_simp; (try with_reducible rfl)
          simp only [Act.put, List.setIfInBounds_toArray, List.set_cons_zero, List.set_cons_succ]
          refine Hl.takeL (i := 4) (d := 84) (v := ?_) rfl (by kernel_rfl) (by kernel_rfl) (by kernel_rfl) (fun _ _ _ h => h) (by rfl) ?_ (by first | assumption | trivial) ?_
          rotate_left
          · intro w hSw; obtain ⟨q1, q2, q3, q4, q5⟩ := HS.out w hSw; go_simp; (try with_reducible rfl)
          simp only [Act.put, List.setIfInBounds_toArray, List.set_cons_zero, List.set_cons_succ]
          refine Hl.takeL (i := 5) (d := 85) (v := ?_) rfl (by kernel_rfl) (by kernel_rfl) (by kernel_rfl) (fun _ _ _ h => h) (by rfl) ?_ (by first | assumption | trivial) ?_
          rotate_left
          · intro w hSw; obtain ⟨q1, q2, q3, q4, q5⟩ := HS.out w hSw; go_simp; (try with_reducible rfl)
          simp only [Act.put, List.setIfInBounds_toArray, List.set_cons_zero, List.set_cons_succ]
          refine Hl.takeL (i := 6) (d := 86) (v := ?_) rfl (by kernel_rfl) (by kernel_rfl) (by kernel_rfl) (fun _ _ _ h => h) (by rfl) ?_ (by first | assumption | trivial) ?_
          rotate_left
          · intro w hSw; obtain ⟨q1, q2, q3, q4, q5⟩ := HS.out w hSw; go_simp; (try with_reducible rfl)
          simp only [Act.put, List.setIfInBounds_toArray, List.set_cons_zero, List.set_cons_succ]
          refine Hl.consL (i := 1) rfl (by kernel_rfl) (fun K' hK' => ?_)
          go_simp
          refine (HLn.out _ _ HQ.out).mono ?_
          rintro e y1 ⟨rfl, hq⟩
          replace HQ : Hid (Qs At W y1 p ⟨room, (⟨em, ed⟩ :: l)⟩ ((g9, .cells #[.int .i64 em, .string ed] 35) :: (r, .cells #[.int .i64 (room : Int), .slice (some ⟨g, o, none⟩) (l.length + 1) c] 45) :: R')) := hq
          clear hq hHeld HLn
          try go_wp2_with fail
          refine hK'.out _ _ HQ.out.rows (fun hHeld => ?_)
          clear hK' K'
          refine Hl.takeL (i := 7) (d := 87) (v := ?_) rfl (by kernel_rfl) (by kernel_rfl) (by kernel_rfl) (fun _ _ _ h => h) (by rfl) ?_ (by first | assumption | trivial) ?_
          rotate_left
          · intro w hSw; obtain ⟨q1, q2, q3, q4, q5⟩ := HS.out w hSw; go_simp; (try with_reducible rfl)
          simp only [Act.put, List.setIfInBounds_toArray, List.set_cons_zero, List.set_cons_succ]
          refine Hl.takeL (i := 8) (d := 88) (v := ?_) rfl (by kernel_rfl) (by kernel_rfl) (by kernel_rfl) (fun _ _ _ h => h) (by rfl) ?_ (by first | assumption | trivial) ?_
          rotate_left
          · intro w hSw; obtain ⟨q1, q2, q3, q4, q5⟩ := HS.out w hSw; go_simp; (try with_reducible rfl)
          simp only [Act.put, List.setIfInBounds_toArray, List.set_cons_zero, List.set_cons_succ]
          refine Hl.takeL (i := 9) (d := 89) (v := ?_) rfl (by kernel_rfl) (by kernel_rfl) (by kernel_rfl) (fun _ _ _ h => h) (by rfl) ?_ (by first | assumption | trivial) ?_
          rotate_left
          · intro w hSw; obtain ⟨q1, q2, q3, q4, q5⟩ := HS.out w hSw; go_simp; (try with_reducible rfl)
          simp only [Act.put, List.setIfInBounds_toArray, List.set_cons_zero, List.set_cons_succ]
          refine Hl.takeL (i := 11) (d := 91) (v := ?_) rfl (by kernel_rfl) (by kernel_rfl) (by kernel_rfl) (fun _ _ _ h => h) (by rfl) ?_ (by first | assumption | trivial) ?_
          rotate_left
          · intro w hSw; obtain ⟨q1, q2, q3, q4, q5⟩ := HS.out w hSw; go_simp; (try with_reducible rfl)
          simp only [Act.put, List.setIfInBounds_toArray, List.set_cons_zero, List.set_cons_succ]
          refine Hl.takeL (i := 12) (d := 92) (v := ?_) rfl (by kernel_rfl) (by kernel_rfl) (by kernel_rfl) (fun _ _ _ h => h) (by rfl) ?_ (by first | assumption | trivial) ?_
          rotate_left
          · intro w hSw; obtain ⟨q1, q2, q3, q4, q5⟩ := HS.out w hSw; go_simp; (try with_reducible rfl)
          simp only [Act.put, List.setIfInBounds_toArray, List.set_cons_zero, List.set_cons_succ]
          refine Hl.takeL (i := 13) (d := 93) (v := ?_) rfl (by kernel_rfl) (by kernel_rfl) (by kernel_rfl) (fun _ _ _ h => h) (by rfl) ?_ (by first | assumption | trivial) ?_
          rotate_left
          · intro w hSw; obtain ⟨q1, q2, q3, q4, q5⟩ := HS.out w hSw; go_simp; (try with_reducible rfl)
          simp only [Act.put, List.setIfInBounds_toArray, List.set_cons_zero, List.set_cons_succ]
          refine Hl.takeL (i := 14) (d := 94) (v := ?_) rfl (by kernel_rfl) (by kernel_rfl) (by kernel_rfl) (fun _ _ _ h => h) (by rfl) ?_ (by first | assumption | trivial) ?_
          rotate_left
          · intro w hSw; obtain ⟨q1, q2, q3, q4, q5⟩ := HS.out w hSw; go_simp; (try with_reducible rfl)
          simp only [Act.put, List.setIfInBounds_toArray, List.set_cons_zero, List.set_cons_succ]
          refine Hl.consL (i := 10) rfl (by kernel_rfl) (fun K' hK' => ?_)
          go_simp
          refine (HAl.out _ _ HQ.out).mono ?_
          rintro e y2 ⟨a2, c2, R2, rfl, hl2, hq⟩
          have HL2 : Hid (LI y2 a2 c2 (l.length + 1) ((⟨em, ed⟩ :: l).flatMap dC) ∧ LI y2 (some ⟨g, o, none⟩) c (l.length + 1) ((⟨em, ed⟩ :: l).flatMap dC)) := ⟨hl2.li (fun x hx => hq.rows x (List.mem_append_left _ hx)), HL.out.li (fun x hx => hq.rows x (List.mem_append_right _ (List.mem_cons_of_mem _ hx)))⟩
          replace HQ : Hid (Qs At W y2 p ⟨room, (⟨em, ed⟩ :: l)⟩ ((g9, .cells #[.int .i64 em, .string ed] 35) :: (r, .cells #[.int .i64 (room : Int), .slice (some ⟨g, o, none⟩) (l.length + 1) c] 45) :: R')) := hq.less (fun x hx => List.mem_append_right _ hx)
          clear hq hHeld HAl hl2
          try go_wp2_with fail
          refine hK'.out _ _ HQ.out.rows (fun hHeld => ?_)
          clear hK' K'
          refine Hl.consL (i := 15) rfl (by kernel_rfl) (fun K' hK' => ?_)
          go_simp
          refine (HSm.out _ a2 c2 HL2.out.1 HL2.out.2).mono ?_
          rintro e y3 ⟨rfl, hb⟩
          replace HQ : Hid (Qs At W y3 p ⟨room, (⟨em, ed⟩ :: l)⟩ ((g9, .cells #[.int .i64 em, .string ed] 35) :: (r, .cells #[.int .i64 (room : Int), .slice (some ⟨g, o, none⟩) (l.length + 1) c] 45) :: R')) := HQ.out.on S hb
          clear hb hHeld HSm HL2
          try go_wp2_with fail
          refine hK'.out _ _ HQ.out.rows (fun hHeld => ?_)
          clear hK' K'
          refine Hl.takeL (i := 16) (d := 96) (v := ?_) rfl (by kernel_rfl) (by kernel_rfl) (by kernel_rfl) (fun _ _ _ h => h) (by rfl) ?_ (by first | assumption | trivial) ?_
          rotate_left
          · intro w hSw; obtain ⟨q1, q2, q3, q4, q5⟩ := HS.out w hSw; go_simp; (try with_reducible rfl)
          simp only [Act.put, List.setIfInBounds_toArray, List.set_cons_zero, List.set_cons_succ]
          refine Hl.takeL (i := 17) (d := 97) (v := ?_) rfl (by kernel_rfl) (by kernel_rfl) (by kernel_rfl) (fun _ _ _ h => h) (by rfl) ?_ (by first | assumption | trivial) ?_
          rotate_left
          · intro w hSw; obtain ⟨q1, q2, q3, q4, q5⟩ := HS.out w hSw; go_simp; (try with_reducible rfl)
          simp only [Act.put, List.setIfInBounds_toArray, List.set_cons_zero, List.set_cons_succ]
          refine Hl.takeL (i := 18) (d := 98) (v := ?_) rfl (by kernel_rfl) (by kernel_rfl) (by kernel_rfl) (fun _ _ _ h => h) (by rfl) ?_ (by first | assumption | trivial) ?_
          rotate_left
          · intro w hSw; obtain ⟨q1, q2, q3, q4, q5⟩ := HS.out w hSw; go_simp; (try with_reducible rfl)
          simp only [Act.put, List.setIfInBounds_toArray, List.set_cons_zero, List.set_cons_succ]
          refine Hl.takeL (i := 19) (d := 99) (v := ?_) rfl (by kernel_rfl) (by kernel_rfl) (by kernel_rfl) (fun _ _ _ h => h) (by rfl) ?_ (by first | assumption | trivial) ?_
          rotate_left
          · intro w hSw; obtain ⟨q1, q2, q3, q4, q5⟩ := HS.out w hSw; go_simp; (try with_reducible rfl)
          simp only [Act.put, List.setIfInBounds_toArray, List.set_cons_zero, List.set_cons_succ]
          refine Hl.takeL (i := 20) (d := 100) (v := ?_) rfl (by kernel_rfl) (by kernel_rfl) (by kernel_rfl) (fun _ _ _ h => h) (by rfl) ?_ (by first | assumption | trivial) ?_
          rotate_left
          · intro w hSw; obtain ⟨q1, q2, q3, q4, q5⟩ := HS.out w hSw; go_simp; (try with_reducible rfl)
          simp only [Act.put, List.setIfInBounds_toArray, List.set_cons_zero, List.set_cons_succ]
          refine Hl.takeL (i := 21) (d := 101) (v := ?_) rfl (by kernel_rfl) (by kernel_rfl) (by kernel_rfl) (fun _ _ _ h => h) (by rfl) ?_ (by first | assumption | trivial) ?_
          rotate_left
          · intro w hSw; obtain ⟨q1, q2, q3, q4, q5⟩ := HS.out w hSw; go_simp; (try with_reducible rfl)
          simp only [Act.put, List.setIfInBounds_toArray, List.set_cons_zero, List.set_cons_succ]
          refine Hl.takeL (i := 22) (d := 102) (v := ?_) rfl (by kernel_rfl) (by kernel_rfl) (by kernel_rfl) (fun _ _ _ h => h) (by rfl) ?_ (by first | assumption | trivial) ?_
          rotate_left
          · intro w hSw; obtain ⟨q1, q2, q3, q4, q5⟩ := HS.out w hSw; go_simp; (try with_reducible rfl)
          simp only [Act.put, List.setIfInBounds_toArray, List.set_cons_zero, List.set_cons_succ]
          refine Hl.takeL (i := 23) (d := 103) (v := ?_) rfl (by kernel_rfl) (by kernel_rfl) (by kernel_rfl) (fun _ _ _ h => h) (by rfl) ?_ (by first | assumption | trivial) ?_
          rotate_left
          · intro w hSw; obtain ⟨q1, q2, q3, q4, q5⟩ := HS.out w hSw; go_simp; (try with_reducible rfl)
          simp only [Act.put, List.setIfInBounds_toArray, List.set_cons_zero, List.set_cons_succ]
          refine Hl.takeL (i := 24) (d := 104) (v := ?_) rfl (by kernel_rfl) (by kernel_rfl) (by kernel_rfl) (fun _ _ _ h => h) (by rfl) ?_ (by first | assumption | trivial) ?_
          rotate_left
          · intro w hSw; obtain ⟨q1, q2, q3, q4, q5⟩ := HS.out w hSw; go_simp; (try with_reducible rfl)
          simp only [Act.put, List.setIfInBounds_toArray, List.set_cons_zero, List.set_cons_succ]
          refine Hl.takeL (i := 25) (d := 105) (v := ?_) rfl (by kernel_rfl) (by kernel_rfl) (by kernel_rfl) (fun _ _ _ h => h) (by rfl) ?_ (by first | assumption | trivial) ?_
          rotate_left
          · intro w hSw; obtain ⟨q1, q2, q3, q4, q5⟩ := HS.out w hSw; go_simp; (try with_reducible rfl)
          simp only [Act.put, List.setIfInBounds_toArray, List.set_cons_zero, List.set_cons_succ]
          refine Hl.takeL (i := 26) (d := 106) (v := ?_) rfl (by kernel_rfl) (by kernel_rfl) (by kernel_rfl) (fun _ _ _ h => h) (by rfl) ?_ (by first | assumption | trivial) ?_
          rotate_left
          · intro w hSw; obtain ⟨q1, q2, q3, q4, q5⟩ := HS.out w hSw; go_simp; (try with_reducible rfl)
          simp only [Act.put, List.setIfInBounds_toArray, List.set_cons_zero, List.set_cons_succ]
          refine Hl.takeL (i := 27) (d := 107) (v := ?_) rfl (by kernel_rfl) (by kernel_rfl) (by kernel_rfl) (fun _ _ _ h => h) (by rfl) ?_ (by first | assumption | trivial) ?_
          rotate_left
          · intro w hSw; obtain ⟨q1, q2, q3, q4, q5⟩ := HS.out w hSw; go_simp; (try with_reducible rfl)
          simp only [Act.put, List.setIfInBounds_toArray, List.set_cons_zero, List.set_cons_succ]
          refine Hl.takeL (i := 28) (d := 108) (v := ?_) rfl (by kernel_rfl) (by kernel_rfl) (by kernel_rfl) (fun _ _ _ h => h) (by rfl) ?_ (by first | assumption | trivial) ?_
          rotate_left
          · intro w hSw; obtain ⟨q1, q2, q3, q4, q5⟩ := HS.out w hSw; go_simp; (try with_reducible rfl)
          simp only [Act.put, List.setIfInBounds_toArray, List.set_cons_zero, List.set_cons_succ]
          refine Hl.takeL (i := 29) (d := 109) (v := ?_) rfl (by kernel_rfl) (by kernel_rfl) (by kernel_rfl) (fun _ _ _ h => h) (by rfl) ?_ (by first | assumption | trivial) ?_
          rotate_left
          · intro w hSw; obtain ⟨q1, q2, q3, q4, q5⟩ := HS.out w hSw; go_simp; (try with_reducible rfl)
          simp only [Act.put, List.setIfInBounds_toArray, List.set_cons_zero, List.set_cons_succ]
          refine Hl.takeL (i := 30) (d := 110) (v := ?_) rfl (by kernel_rfl) (by kernel_rfl) (by kernel_rfl) (fun _ _ _ h => h) (by rfl) ?_ (by first | assumption | trivial) ?_
          rotate_left
          · intro w hSw; obtain ⟨q1, q2, q3, q4, q5⟩ := HS.out w hSw; go_simp; (try with_reducible rfl)
          simp only [Act.put, List.setIfInBounds_toArray, List.set_cons_zero, List.set_cons_succ]
          refine Hl.takeL (i := 31) (d := 111) (v := ?_) rfl (by kernel_rfl) (by kernel_rfl) (by kernel_rfl) (fun _ _ _ h => h) (by rfl) ?_ (by first | assumption | trivial) ?_
          rotate_left
          · intro w hSw; obtain ⟨q1, q2, q3, q4, q5⟩ := HS.out w hSw; go_simp; (try with_reducible rfl)
          simp only [Act.put, List.setIfInBounds_toArray, List.set_cons_zero, List.set_cons_succ]
          refine Hl.takeL (i := 32) (d := 112) (v := ?_) rfl (by kernel_rfl) (by kernel_rfl) (by kernel_rfl) (fun _ _ _ h => h) (by rfl) ?_ (by first | assumption | trivial) ?_
          rotate_left
          · intro w hSw; obtain ⟨q1, q2, q3, q4, q5⟩ := HS.out w hSw; go_simp; (try with_reducible rfl)
          simp only [Act.put, List.setIfInBounds_toArray, List.set_cons_zero, List.set_cons_succ]
          refine Hl.takeL (i := 33) (d := 113) (v := ?_) rfl (by kernel_rfl) (by kernel_rfl) (by kernel_rfl) (fun _ _ _ h => h) (by rfl) ?_ (by first | assumption | trivial) ?_
          rotate_left
          · intro w hSw; obtain ⟨q1, q2, q3, q4, q5⟩ := HS.out w hSw; go_simp; (try with_reducible rfl)
          simp only [Act.put, List.setIfInBounds_toArray, List.set_cons_zero, List.set_cons_succ]
          refine Hl.takeL (i := 34) (d := 114) (v := ?_) rfl (by kernel_rfl) (by kernel_rfl) (by kernel_rfl) (fun _ _ _ h => h) (by rfl) ?_ (by first | assumption | trivial) ?_
          rotate_left
          · intro w hSw; obtain ⟨q1, q2, q3, q4, q5⟩ := HS.out w hSw; go_simp; (try with_reducible rfl)
          simp only [Act.put, List.setIfInBounds_toArray, List.set_cons_zero, List.set_cons_succ]
          refine Hl.takeL (i := 35) (d := 115) (v := ?_) rfl (by kernel_rfl) (by kernel_rfl) (by kernel_rfl) (fun _ _ _ h => h) (by rfl) ?_ (by first | assumption | trivial) ?_
          rotate_left
          · intro w hSw; obtain ⟨q1, q2, q3, q4, q5⟩ := HS.out w hSw; go_simp; (try with_reducible rfl)
          simp only [Act.put, List.setIfInBounds_toArray, List.set_cons_zero, List.set_cons_succ]
          refine Hl.takeL (i := 36) (d := 116) (v := ?_) rfl (by kernel_rfl) (by kernel_rfl) (by kernel_rfl) (fun _ _ _ h => h) (by rfl) ?_ (by first | assumption | trivial) ?_
          rotate_left
          · intro w hSw; obtain ⟨q1, q2, q3, q4, q5⟩ := HS.out w hSw; go_simp; (try with_reducible rfl)
          simp only [Act.put, List.setIfInBounds_toArray, List.set_cons_zero, List.set_cons_succ]
          refine Hl.takeL (i := 37) (d := 117) (v := ?_) rfl (by kernel_rfl) (by kernel_rfl) (by kernel_rfl) (fun _ _ _ h => h) (by rfl) ?_ (by first | assumption | trivial) ?_
          rotate_left
          · intro w hSw; obtain ⟨q1, q2, q3, q4, q5⟩ := HS.out w hSw; go_simp; (try with_reducible rfl)
          simp only [Act.put, List.setIfInBounds_toArray, List.set_cons_zero, List.set_cons_succ]
          refine Hl.takeL (i := 38) (d := 118) (v := ?_) rfl (by kernel_rfl) (by kernel_rfl) (by kernel_rfl) (fun _ _ _ h => h) (by rfl) ?_ (by first | assumption | trivial) ?_
          rotate_left
          · intro w hSw; obtain ⟨q1, q2, q3, q4, q5⟩ := HS.out w hSw; go_simp; (try with_reducible rfl)
          simp only [Act.put, List.setIfInBounds_toArray, List.set_cons_zero, List.set_cons_succ]
          refine Hl.takeL (i := 39) (d := 119) (v := ?_) rfl (by kernel_rfl) (by kernel_rfl) (by kernel_rfl) (fun _ _ _ h => h) (by rfl) ?_ (by first | assumption | trivial) ?_
          rotate_left
          · intro w hSw; obtain ⟨q1, q2, q3, q4, q5⟩ := HS.out w hSw; go_simp; (try with_reducible rfl)
          simp only [Act.put, List.setIfInBounds_toArray, List.set_cons_zero, List.set_cons_succ]
          refine Hl.takeL (i := 40) (d := 120) (v := ?_) rfl (by kernel_rfl) (by kernel_rfl) (by kernel_rfl) (fun _ _ _ h => h) (by rfl) ?_ (by first | assumption | trivial) ?_
          rotate_left
          · intro w hSw; obtain ⟨q1, q2, q3, q4, q5⟩ := HS.out w hSw; go_simp; (try with_reducible rfl)
          simp only [Act.put, List.setIfInBounds_toArray, List.set_cons_zero, List.set_cons_succ]
          refine Hl.takeL (i := 41) (d := 121) (v := ?_) rfl (by kernel_rfl) (by kernel_rfl) (by kernel_rfl) (fun _ _ _ h => h) (by rfl) ?_ (by first | assumption | trivial) ?_
          rotate_left
          · intro w hSw; obtain ⟨q1, q2, q3, q4, q5⟩ := HS.out w hSw; go_simp; (try with_reducible rfl)
          simp only [Act.put, List.setIfInBounds_toArray, List.set_cons_zero, List.set_cons_succ]
          refine Hl.takeL (i := 42) (d := 122) (v := ?_) rfl (by kernel_rfl) (by kernel_rfl) (by kernel_rfl) (fun _ _ _ h => h) (by rfl) ?_ (by first | assumption | trivial) ?_
          rotate_left
          · intro w hSw; obtain ⟨q1, q2, q3, q4, q5⟩ := HS.out w hSw; go_simp; (try with_reducible rfl)
          simp only [Act.put, List.setIfInBounds_toArray, List.set_cons_zero, List.set_cons_succ]
          refine Hl.takeL (i := 43) (d := 123) (v := ?_) rfl (by kernel_rfl) (by kernel_rfl) (by kernel_rfl) (fun _ _ _ h => h) (by rfl) ?_ (by first | assumption | trivial) ?_
          rotate_left
          · intro w hSw; obtain ⟨q1, q2, q3, q4, q5⟩ := HS.out w hSw; go_simp; (try with_reducible rfl)
          simp only [Act.put, List.setIfInBounds_toArray, List.set_cons_zero, List.set_cons_succ]
          refine Hl.takeL (i := 44) (d := 124) (v := ?_) rfl (by kernel_rfl) (by kernel_rfl) (by kernel_rfl) (fun _ _ _ h => h) (by rfl) ?_ (by first | assumption | trivial) ?_
          rotate_left
          · intro w hSw; obtain ⟨q1, q2, q3, q4, q5⟩ := HS.out w hSw; go_simp; (try with_reducible rfl)
          simp only [Act.put, List.setIfInBounds_toArray, List.set_cons_zero, List.set_cons_succ]
          refine skipL (i := 45) (d := 125) rfl (by kernel_rfl) (by kernel_rfl) (by kernel_rfl) (fun _ _ _ h => h) (by rfl) (by first | assumption | trivial) ?_
          simp only [Act.put, List.setIfInBounds_toArray, List.set_cons_zero, List.set_cons_succ]
          refine skipL (i := 46) (d := 126) rfl (by kernel_rfl) (by kernel_rfl) (by kernel_rfl) (fun _ _ _ h => h) (by rfl) (by first | assumption | trivial) ?_
          simp only [Act.put, List.setIfInBounds_toArray, List.set_cons_zero, List.set_cons_succ]
          refine skipL (i := 47) (d := 127) rfl (by kernel_rfl) (by kernel_rfl) (by kernel_rfl) (fun _ _ _ h => h) (by rfl) (by first | assumption | trivial) ?_
          simp only [Act.put, List.setIfInBounds_toArray, List.set_cons_zero, List.set_cons_succ]
          refine Hl.takeL (i := 48) (d := 128) (v := ?_) rfl (by kernel_rfl) (by kernel_rfl) (by kernel_rfl) (fun _ _ _ h => h) (by rfl) ?_ (by first | assumption | trivial) ?_
          rotate_left
          · intro w hSw; obtain ⟨q1, q2, q3, q4, q5⟩ := HS.out w hSw; go_simp; (try with_reducible rfl)
          simp only [Act.put, List.setIfInBounds_toArray, List.set_cons_zero, List.set_cons_succ]
          refine Hl.takeL (i := 49) (d := 129) (v := ?_) rfl (by kernel_rfl) (by kernel_rfl) (by kernel_rfl) (fun _ _ _ h => h) (by rfl) ?_ (by first | assumption | trivial) ?_
          rotate_left
          · intro w hSw; obtain ⟨q1, q2, q3, q4, q5⟩ := HS.out w hSw; go_simp; (try with_reducible rfl)
          simp only [Act.put, List.setIfInBounds_toArray, List.set_cons_zero, List.set_cons_succ]
          refine wpAnyH_done (by kernel_rfl) ?_ _
          clear hHeld HS
          have HVn : Hid (Vp At W y3 p r ⟨room, (⟨em, ed⟩ :: l)⟩ []) := HU.out y3 _ HQ.out (fun x hx => List.mem_cons_of_mem _ hx)
          clear HU HQ HL
          go_wp2_with fail
          go_roundw
          case rel => exact ⟨i + 1, _, by omega, rfl, HVn⟩
          case measure => simp only [intOf]; omega
    · obtain rfl : i = len1 := by omega
      have ii : ¬ ((i : Int) < (i : Int)) := by omega
      have HB : Hid (Below W.heap.size W wr) := HV.out.bel
      clear HV HEl
      go_wp2
      go_ret
      exact ⟨rfl, HB.out⟩
end Go.Proofs.Ytfffpaoimhmedaa.queuePlays
