/- WirePlays: every row of frames asked for, bits, turned ones: each bit's events, all nodes' events, counters, the trace; whatever number of nodes is asked for, of at most ten steps of at most 300 bits and frames of at most 20 bytes (others are let by); no condition. -/
import Derived.Test.YthkaekpoicodeaaGreatDoorUm
import Derived.Deep.Cut
import Derived.Deep.CutBlock
import Derived.Deep.RegionLaw
import Derived.Deep.RegionWith
import Derived.ProofKit
import Derived.OpenShut
namespace Go.Proofs.YthkaekpoicodeaaGreatDoor.wirePlays
open Go.ChangeShapes Go.WideShapes Go.ChangeAt Go.RowKit
set_option linter.unusedVariables false
variable {At : Ob.A Mm.Wi}
set_option maxRecDepth 100000 in
set_option maxHeartbeats 4000000 in
theorem long (S : WireSpec At) (n : Int) (s0 : Option Addr) (len0 cap0 : Nat) (h : 10 < len0) (W : World) (hT : Tab W) :
    Calls Tryz.prog 3 #[.int .i64 n, .slice s0 len0 cap0] W fun e w' => e = .returned (.bool true) ∧ Below W.heap.size W w' := by
  have HT : Hid (Tab W) := hT
  clear hT
  go_enter Tryz.func3, Tryz.ntmps3
  go_wp2_with fail
  refine (known8_any S _ HT.out).mono ?_
  rintro e w1 ⟨rfl, hb⟩
  have hA : Hid (Below W.heap.size W w1) := hb
  clear hb
  go_wp2
  go_ret
  exact ⟨rfl, hA.out⟩
theorem told_len (V : Mm.Wi) (fl : Bool) (h : V.ms.length ≤ 8) : (Mm.wtold V fl).length ≤ 1000 := by
  have h1 : ∀ (b : Bool) (ms : List Mm.St), (Mm.wevs ms b).length ≤ 3 * ms.length := fun b ms => by
    unfold Mm.wevs
    induction ms with
    | nil => simp
    | cons a l ih =>
      rw [List.flatMap_cons, List.length_append, List.length_cons]
      have := Mm.sample_len a b
      omega
  have := h1 (Mm.wbit V.ms fl) V.ms
  unfold Mm.wtold
  omega
theorem step_cells {w : World} {g : Nat} {a b c : Int} {f : Cm.Fr} (h : w.heap[g]? = some (.cells #[.int .i64 a, .int .i64 b, .int .i64 c, .bool f.1, .int .u32 (f.2.1 : Int), .bool f.2.2.1, .string ⟨f.2.2.2.toArray⟩] 37 (0, 0))) :
    w.cell? ⟨g, 0, none⟩ = some (.int .i64 a) ∧ w.cell? ⟨g, 1, none⟩ = some (.int .i64 b) ∧ w.cell? ⟨g, 2, none⟩ = some (.int .i64 c) ∧ w.cell? ⟨g, 3, none⟩ = some (.bool f.1) ∧ w.cell? ⟨g, 4, none⟩ = some (.int .u32 (f.2.1 : Int)) ∧ w.cell? ⟨g, 5, none⟩ = some (.bool f.2.2.1) ∧ w.cell? ⟨g, 6, none⟩ = some (.string ⟨f.2.2.2.toArray⟩) := by
  refine ⟨?_, ?_, ?_, ?_, ?_, ?_, ?_⟩
  all_goals (rw [cell_of_row _ _ _ _ _ _ h]; rfl)
abbrev stO (a b c : Int) (f : Cm.Fr) : Obj := .cells #[.int .i64 a, .int .i64 b, .int .i64 c, .bool f.1, .int .u32 (f.2.1 : Int), .bool f.2.2.1, .string ⟨f.2.2.2.toArray⟩] 37 (0, 0)
set_option maxRecDepth 100000 in
set_option maxHeartbeats 8000000 in
theorem row (S : WireSpec At) (S2 : StepOwn At) (n : Int) (hn : (Lit.int .i64 n).wf = true) (s0 : Option Addr) (len0 cap0 : Nat) (wh bi fp : Nat → Int) (fr : Nat → Cm.Fr) (hl : len0 ≤ 10) (W : World) (hT : Tab W) (hR : StepRow8 W s0 len0 wh bi fp fr) :
    Calls Tryz.prog 3 #[.int .i64 n, .slice s0 len0 cap0] W fun e w' => e = .returned (.bool true) ∧ Below W.heap.size W w' := by
  have HT : Hid (Tab W) := hT
  have HR : Hid (StepRow8 W s0 len0 wh bi fp fr) := hR
  have HN : Hid ((Lit.int .i64 n).wf = true) := hn
  have d1 : ¬ 10 < len0 := by omega
  obtain ⟨K, hK⟩ : ∃ K, Mm.heldN n = K := ⟨_, rfl⟩
  obtain ⟨hK1, hK8⟩ : 1 ≤ K ∧ K ≤ 8 := by rw [← hK]; unfold Mm.heldN; omega
  have HK : Hid (Mm.heldN n = K) := hK
  clear hT hR hn hK
  go_enter Tryz.func3, Tryz.ntmps3
  go_wp2_with fail
  refine (known8_any S _ HT.out).mono ?_
  rintro e w1 ⟨rfl, hb⟩
  have hC : Hid (Ctx W (fun g => w1.heap.size ≤ g) w1) := Ctx.from HT.out hb
  clear hb
  go_wp2_with fail
  refine (ow_new S n HN.out hC.out).mono ?_
  rintro e w2 ⟨p, qs, qb, rfl, O', C', hk'⟩
  have HO2 : Hid (OwnW At (fun g => w1.heap.size ≤ g) w2 p (Mm.wnew (Mm.heldN n) qs qb)) := O'
  have HC2 : Hid (Ctx W (fun g => w1.heap.size ≤ g) w2) := C'
  clear O' C' hk' hC
  go_wp2_with fail
  refine (made_any w2 n).mono ?_
  rintro e w3 ⟨sm, cm, sh, ch, N0, rfl, hM⟩
  have hO2 := HO2.out
  rw [HK.out] at hM hO2
  obtain ⟨gm, gh, hRI, hnew⟩ := hM.end hK1 hK8
  have HP : Hid (Pl At W w3 p w2.heap.size gm gh cm ch (Mm.wnew K qs qb) N0 []) := pl_start S hO2 HC2.out hM.below hRI hnew
  have HAl : Hid (Alike (Mm.wnew K qs qb) N0 []) := alike_new hM qs qb
  have HNl : Hid (N0.length = K) := hM.len
  generalize w2.heap.size = r at HP ⊢
  clear hM hRI hnew HO2 HC2 hO2
  have HLn : Hid (∀ w', Below w3.heap.size w3 w' → Calls Tryz.prog 7 #[bptr p] w' fun e w'' => e = .returned (.int .i64 (K : Int)) ∧ Below w'.heap.size w' w'') := fun w' hb => by
    obtain ⟨P, hO, _⟩ := (HP.out.on S hb).ex
    exact ow_len S (by show (List.replicate K Mm.fresh).length = K; simp) hO
  have HC0 : Hid (∀ w', Below w3.heap.size w3 w' → w'.cell? ⟨r, 0, none⟩ = some (.slice (some ⟨gm, 0, none⟩) K cm)) := fun w' hb => by
    have := (HP.out.on S hb).ri.c0
    rw [HNl.out] at this
    exact this
  go_wp2_with fail
  refine Lw.wp_region_quiet_below (by kernel_rfl) (by kernel_rfl) ?_
  repeat (first
    | go_big_quiet_skip
    | (go_big_quiet_want; go_big_quiet_op; go_big_quiet_on)
    | (go_big_quiet_want; go_big_quiet_op; apply Exists.intro; refine ⟨fun _ hb' => ?_, ?_⟩; (first
      | exact Lw.val_rfl _
      | (go_at_call 7; exact Lw.calls_below hb' (HLn.out _ hb'))
      | (simp [go_sem, HC0.out _ hb']; rfl)); go_big_quiet_on))
  refine wpQuiet_nil ?_
  intro w4 hb4
  have HP4 : Hid (Pl At W w4 p r gm gh cm ch (Mm.wnew K qs qb) N0 []) := HP.out.on S hb4
  clear HP hb4 HLn HC0
  go_wp2_with fail
  go_loopw [7] (fun i wr => ∃ (k : Nat) (V : Mm.Wi) (N : List Rn) (tr : List Bool), k ≤ len0 ∧ i = .int .i64 k ∧ Hid (Alike V N tr) ∧ Hid (V.bs.length ≤ 300 * k) ∧ Hid (N.length = K) ∧ Hid (Pl At W wr p r gm gh cm ch V N tr)) (fun i _ => len0 - (intOf i).toNat)
  case atStart => exact ⟨0, _, N0, [], Nat.zero_le _, rfl, HAl, Nat.le_refl _, HNl, HP4⟩
  case round =>
    clear HAl HNl HP4
    obtain ⟨k, V, N, tr, hk, rfl, HAl, HBs, HNl, HP⟩ := hrel
    by_cases hlt : k < len0
    · obtain ⟨b0, o0, rfl, hcs⟩ : ∃ b off, s0 = some ⟨b, off, none⟩ ∧ ∀ i, i < len0 → W.cell? ⟨b, off + i * 7, none⟩ = some (.int .i64 (wh i)) ∧ W.cell? ⟨b, off + i * 7 + 1, none⟩ = some (.int .i64 (bi i)) ∧ W.cell? ⟨b, off + i * 7 + 2, none⟩ = some (.int .i64 (fp i)) ∧ W.cell? ⟨b, off + i * 7 + 3, none⟩ = some (.bool (fr i).1) ∧ W.cell? ⟨b, off + i * 7 + 4, none⟩ = some (.int .u32 ((fr i).2.1 : Int)) ∧ W.cell? ⟨b, off + i * 7 + 5, none⟩ = some (.bool (fr i).2.2.1) ∧ W.cell? ⟨b, off + i * 7 + 6, none⟩ = some (.string ⟨(fr i).2.2.2.toArray⟩) ∧
          (Lit.int .i64 (wh i)).wf = true ∧ (Lit.int .i64 (bi i)).wf = true ∧ (Lit.int .i64 (fp i)).wf = true ∧ (fr i).2.1 < 4294967296 := by
        rcases HR.out with h | h
        · omega
        · exact h
      obtain ⟨q0, q1, q2, q3, q4, q5, q6, u0, u1, u2, u3⟩ := hcs k hlt
      clear hcs
      generalize wh k = a at *
      generalize bi k = bb at *
      generalize fp k = fq at *
      generalize fr k = f at *
      have r0 := cell_on8 HP.out.below q0
      have r1 := cell_on8 HP.out.below q1
      have r2 := cell_on8 HP.out.below q2
      have r3 := cell_on8 HP.out.below q3
      have r4 := cell_on8 HP.out.below q4
      have r5 := cell_on8 HP.out.below q5
      have r6 := cell_on8 HP.out.below q6
      have r0' : ∀ o, (wr.alloc o).cell? ⟨b0, o0 + k * 7, none⟩ = some (.int .i64 (a)) := fun o => cell_on8 ((Below.refl _ _).alloc (Nat.le_refl _) o) r0
      have HS : Hid (PlS At W (wr.alloc (.cells #[.int .i64 (a), .int .i64 (bb), .int .i64 (fq), .bool f.1, .int .u32 (f.2.1 : Int), .bool f.2.2.1, .string ⟨f.2.2.2.toArray⟩] 37)) p r gm gh cm ch V N tr wr.heap.size (stO (a) (bb) (fq) f)) := HP.out.withB S
      have HU : Hid ((Lit.int .i64 (a)).wf = true ∧ (Lit.int .i64 (bb)).wf = true ∧ (Lit.int .i64 (fq)).wf = true ∧ f.2.1 < 4294967296) := ⟨u0, u1, u2, u3⟩
      obtain ⟨t0, t1, t2, t3, t4, t5, t6⟩ := step_cells HS.out.sb
      clear q0 q1 q2 q3 q4 q5 q6 u0 u1 u2 u3
      by_cases hbig : 300 < bb
      · go_wp2
        go_ret
        exact ⟨rfl, HS.out.pl.below⟩
      · by_cases hd : 20 < f.2.2.2.length
        · go_wp2
          go_ret
          exact ⟨rfl, HS.out.pl.below⟩
        · go_wp2_with fail
          obtain ⟨wS, hwS⟩ : ∃ wS, wS = wr.alloc (.cells #[.int .i64 a, .int .i64 bb, .int .i64 fq, .bool f.1, .int .u32 (f.2.1 : Int), .bool f.2.2.1, .string ⟨f.2.2.2.toArray⟩] 37) := ⟨_, rfl⟩
          rw [← hwS] at HS t0 t1 t2 t3 t4 t5 t6 ⊢
          generalize wr.heap.size = gS at HS t0 t1 t2 t3 t4 t5 t6 ⊢
          clear hwS r0 r1 r2 r3 r4 r5 r6 r0' HP
          obtain ⟨nd, hnd⟩ : ∃ nd : Bool, decide (0 ≤ a ∧ a < (K : Int)) = nd := ⟨_, rfl⟩
          have HNd : Hid (decide (0 ≤ a ∧ a < (K : Int)) = nd) := hnd
          clear hnd
          have HF0 : Hid (∀ w', Below wS.heap.size wS w' → w'.cell? ⟨gS, 0, none⟩ = some (.int .i64 a) ∧ w'.cell? ⟨r, 0, none⟩ = some (.slice (some ⟨gm, 0, none⟩) K cm)) := fun w' hb => by
            have h1 := (step_cells (HS.out.on S hb).sb).1
            have h2 := (HS.out.on S hb).ri.c0
            rw [HNl.out] at h2
            exact ⟨h1, h2⟩
          go_cut [62] from 50 to 81 (fun v wx => v = .bool nd ∧ Hid (PlS At W wx p r gm gh cm ch V N tr gS (stO a bb fq f)))
          case first =>
            by_cases h0 : 0 ≤ a
            · by_cases h1 : a < (K : Int)
              · have hn : nd = true := HNd.out.symm.trans (decide_eq_true ⟨h0, h1⟩)
                subst hn
                clear t0 t1 t2 t3 t4 t5 t6
                refine Lw.wp_region_quiet_below (by kernel_rfl) (by kernel_rfl) ?_
                repeat (first
                  | go_big_quiet_skip
                  | (go_big_quiet_want; go_big_quiet_op; go_big_quiet_on)
                  | (go_big_quiet_want; go_big_quiet_op; apply Exists.intro; refine ⟨fun _ hb' => ?_, ?_⟩; (first
                    | exact Lw.val_rfl _
                    | (simp [go_sem, (HF0.out _ hb').1]; rfl)
                    | (simp [go_sem, (HF0.out _ hb').2]; rfl)); go_big_quiet_on))
                refine wpQuiet_nil ?_
                intro w5 hb5
                have HS5 : Hid (PlS At W w5 p r gm gh cm ch V N tr gS (stO a bb fq f)) := HS.out.on S hb5
                clear hb5
                go_wp2_with fail
                go_meet
                case rel => exact ⟨rfl, HS5⟩
              · have hn : nd = false := HNd.out.symm.trans (decide_eq_false (fun h => h1 h.2))
                subst hn
                clear t0 t1 t2 t3 t4 t5 t6
                refine Lw.wp_region_quiet_below (by kernel_rfl) (by kernel_rfl) ?_
                repeat (first
                  | go_big_quiet_skip
                  | (go_big_quiet_want; go_big_quiet_op; go_big_quiet_on)
                  | (go_big_quiet_want; go_big_quiet_op; apply Exists.intro; refine ⟨fun _ hb' => ?_, ?_⟩; (first
                    | exact Lw.val_rfl _
                    | (simp [go_sem, (HF0.out _ hb').1]; rfl)
                    | (simp [go_sem, (HF0.out _ hb').2]; rfl)); go_big_quiet_on))
                refine wpQuiet_nil ?_
                intro w5 hb5
                have HS5 : Hid (PlS At W w5 p r gm gh cm ch V N tr gS (stO a bb fq f)) := HS.out.on S hb5
                clear hb5
                go_wp2_with fail
                go_meet
                case rel => exact ⟨rfl, HS5⟩
            · have hn : nd = false := HNd.out.symm.trans (decide_eq_false (fun h => h0 h.1))
              subst hn
              clear t0 t1 t2 t3 t4 t5 t6
              refine Lw.wp_region_quiet_below (by kernel_rfl) (by kernel_rfl) ?_
              repeat (first
                | go_big_quiet_skip
                | (go_big_quiet_want; go_big_quiet_op; go_big_quiet_on)
                | (go_big_quiet_want; go_big_quiet_op; apply Exists.intro; refine ⟨fun _ hb' => ?_, ?_⟩; (first
                  | exact Lw.val_rfl _
                  | (simp [go_sem, (HF0.out _ hb').1]; rfl)
                  | (simp [go_sem, (HF0.out _ hb').2]; rfl)); go_big_quiet_on))
              refine wpQuiet_nil ?_
              intro w5 hb5
              have HS5 : Hid (PlS At W w5 p r gm gh cm ch V N tr gS (stO a bb fq f)) := HS.out.on S hb5
              clear hb5
              go_wp2_with fail
              go_meet
              case rel => exact ⟨rfl, HS5⟩
          case rest =>
            obtain ⟨rfl, HS5⟩ := hcut
            clear HS HF0 t0 t1 t2 t3 t4 t5 t6
            go_upto_if 62 with fail
            go_cut [9] from 50 to 81 (fun v wx => ∃ (ek : Nat) (V2 : Mm.Wi) (N2 : List Rn), v = .int .i64 (ek : Int) ∧ Hid (Mm.wask V a f = (ek, V2)) ∧ Hid (Alike V2 N2 tr) ∧ Hid (V2.bs.length ≤ 300 * k) ∧ Hid (N2.length = K) ∧ Hid (PlS At W wx p r gm gh cm ch V N2 tr gS (stO a bb fq f)))
            case first =>
              cases nd with
              | false =>
                have HV2 : Hid (Mm.wask V a f = (141, V)) := HAl.out.no (by rw [HNl.out]; exact of_decide_eq_false HNd.out) f
                go_wp2_with fail
                go_meet
                case rel => exact ⟨141, V, N, rfl, HV2, HAl, HBs, HNl, HS5⟩
              | true =>
                have hnode : 0 ≤ a ∧ a < (K : Int) := of_decide_eq_true HNd.out
                obtain ⟨i, rfl⟩ : ∃ i : Nat, a = (i : Int) := ⟨a.toNat, by omega⟩
                have hiK : i < K := by omega
                obtain ⟨x, hx⟩ : ∃ x, N[i]? = some x := ⟨_, List.getElem?_eq_getElem (by rw [HNl.out]; exact hiK)⟩
                have HX : Hid (N[i]? = some x) := hx
                clear hx hnode HNd
                go_wp2_with fail
                refine Lw.region_tail 10 (by kernel_rfl) (by kernel_rfl) ?_
                intro w6 hw6
                have HS6 : Hid (PlS At W w6 p r gm gh cm ch V N tr gS (stO (i : Int) bb fq f)) := by rw [hw6]; exact HS5.out.on S ((Below.refl _ _).drew)
                obtain ⟨t0, t1, t2, t3, t4, t5, t6⟩ := step_cells HS6.out.sb
                have c0 : w6.cell? ⟨r, 0, none⟩ = some (.slice (some ⟨gm, 0, none⟩) K cm) := by have := HS6.out.ri.c0; rw [HNl.out] at this; exact this
                have cmi := HS6.out.ri.cm HX.out
                have hiKJ : (i : Int) < (K : Int) := by omega
                clear hw6 HS5
                simp only [List.take_succ_cons, List.take_zero, List.drop_succ_cons, List.drop_zero]
                repeat (first | still_step)
                refine wpStill_nil ?_
                go_wp2_with fail
                refine (ps_rask S HX.out f HS6.out).mono ?_
                rintro e w7 ⟨rfl, qr, H'⟩
                obtain ⟨hk1, hAl2⟩ := HAl.out.ask HX.out f qr
                have HS7 : Hid (PlS At W w7 p r gm gh cm ch V (N.set i ⟨x.q, qr, x.s, x.c, (Mm.ask x.m f).2, x.h⟩) tr gS (stO (i : Int) bb fq f)) := H'
                obtain ⟨V2, hV2⟩ : ∃ V2, Mm.wask V (i : Int) f = ((Mm.ask x.m f).1, V2) := ⟨_, by rw [← hk1]⟩
                have HV2 : Hid (Mm.wask V (i : Int) f = ((Mm.ask x.m f).1, V2)) := hV2
                rw [hV2] at hAl2
                have HAl2 : Hid (Alike V2 (N.set i ⟨x.q, qr, x.s, x.c, (Mm.ask x.m f).2, x.h⟩) tr) := hAl2
                have HNl2 : Hid ((N.set i (⟨x.q, qr, x.s, x.c, (Mm.ask x.m f).2, x.h⟩ : Rn)).length = K) := by show _ = _; rw [List.length_set]; exact HNl.out
                have HBs2 : Hid (V2.bs.length ≤ 300 * k) := by show _ ≤ _; have e : V2.bs = V.bs := hAl2.bs.symm.trans HAl.out.bs; rw [e]; exact HBs.out
                clear H' hk1 hAl2 hV2 t0 t1 t2 t3 t4 t5 t6 c0 cmi HS6
                go_wp2_with fail
                go_meet
                case rel => exact ⟨_, V2, _, rfl, HV2, HAl2, HBs2, HNl2, HS7⟩
            case rest =>
              obtain ⟨ek, V2, N2, rfl, HV2, HAl2, HBs2, HNl2, HS7⟩ := hcut
              clear HS5 HAl HBs HNl HNd
              obtain ⟨t0, t1, t2, t3, t4, t5, t6⟩ := step_cells HS7.out.sb
              go_wp2_with fail
              refine (ps_ask S a f HV2.out HU.out.1 HU.out.2.2.2 (by omega) HS7.out).mono ?_
              rintro e w8 ⟨rfl, H'⟩
              have HS8 : Hid (PlS At W w8 p r gm gh cm ch V2 N2 tr gS (stO a bb fq f)) := H'
              clear H' t0 t1 t2 t3 t4 t5 t6 HS7 HV2
              go_wp2_with fail
              go_loopw [10] (fun v wr => ∃ (j : Nat) (V : Mm.Wi) (N : List Rn) (tr : List Bool), (j = 0 ∨ (j : Int) ≤ bb) ∧ v = .int .i64 j ∧ Hid (Alike V N tr) ∧ Hid (V.bs.length ≤ 300 * k + j) ∧ Hid (N.length = K) ∧ Hid (PlS At W wr p r gm gh cm ch V N tr gS (stO a bb fq f))) (fun v _ => (bb - intOf v).toNat)
              case atStart => exact ⟨0, V2, N2, tr, Or.inl rfl, rfl, HAl2, HBs2, HNl2, HS8⟩
              case round =>
                clear HAl2 HBs2 HNl2 HS8
                obtain ⟨j, V3, N3, tr3, hj, rfl, HAl, HBs, HNl, HS⟩ := hrel
                obtain ⟨t0, t1, t2, t3, t4, t5, t6⟩ := step_cells HS.out.sb
                by_cases hjb : (j : Int) < bb
                · obtain ⟨fl, hfl⟩ : ∃ fl, ((j : Int) == fq) = fl := ⟨_, rfl⟩
                  have hms : V3.ms.length ≤ 8 := by rw [← HAl.out.ms, List.length_map, HNl.out]; exact hK8
                  have hln : Hid ((Mm.wtold V3 fl).length ≤ 1000) := told_len V3 fl hms
                  have hbl : Hid (V3.bs.length ≤ 100000) := by show _ ≤ _; have := HBs.out; omega
                  have HSd : Hid (PlS At W wr.drew p r gm gh cm ch V3 N3 tr3 gS (stO a bb fq f)) := HS.out.on S ((Below.refl _ _).drew)
                  have HRs : Hid (∀ w9, PlS At W w9 p r gm gh cm ch (Mm.wnext V3 fl) N3 tr3 gS (stO a bb fq f) → Calls Tryz.prog 12 #[bptr r, .bool fl] w9 fun e w' => ∃ s cap N', e = .returned (.slice s (Mm.wtold V3 fl).length cap) ∧ EvAt w9.heap.size w' s cap (Mm.wtold V3 fl) ∧ SofarR N3 N' N3.length (Mm.wbit V3.ms fl) ∧ PlS At W w' p r gm gh cm ch (Mm.wnext V3 fl) N' (tr3 ++ [Mm.wbit V3.ms fl]) gS (stO a bb fq f) ∧ Kept (fpr r gm gh N3) w9 w') := fun w9 h9 => by
                    have := ps_rstep S fl (by rw [HAl.out.bs]; exact hbl.out) HAl.out.hd h9 (HAl.out.bit fl).symm
                    rw [HAl.out.told] at this
                    exact this
                  generalize hE : Mm.wtold V3 fl = E at hln HRs
                  have HEe : Hid (Mm.wtold V3 fl = E) := hE
                  clear hE hms
                  go_wp2_with fail
                  go_cut [101] from 88 to 101 (fun v wx => ∃ N' tr', v = .bool false ∧ Hid (Alike (Mm.wnext V3 fl) N' tr') ∧ Hid (N'.length = K) ∧ Hid (PlS At W wx p r gm gh cm ch (Mm.wnext V3 fl) N' tr' gS (stO a bb fq f)))
                  case first =>
                    go_region_with (first | (go_at_call 11; refine (ps_step S2 fl hbl.out HSd.out).mono ?_; rintro e w9 ⟨sA, cA, rfl, hEA, hsep, H'⟩; rw [HEe.out] at hEA ⊢; have HS9 : Hid (PlS At W w9 p r gm gh cm ch (Mm.wnext V3 fl) N3 tr3 gS (stO a bb fq f)) := H'; have HEA : Hid (EvIn w9 sA cA E) := hEA; have HSp : Hid (∀ q, sA = some q → ¬ fpr r gm gh N3 q.block) := hsep; obtain ⟨y0, y1, y2, y3, y4, y5, y6⟩ := step_cells HS9.out.sb; clear hEA hsep H') | (go_at_call 12; refine (HRs.out _ HS9.out).mono ?_; rintro e w10 ⟨sB, cB, N', rfl, hEB, hSo, H', hkp⟩; have HS10 : Hid (PlS At W w10 p r gm gh cm ch (Mm.wnext V3 fl) N' (tr3 ++ [Mm.wbit V3.ms fl]) gS (stO a bb fq f)) := H'; have HEB : Hid (EvIn w10 sB cB E) := hEB.inn; have HEA2 : Hid (EvIn w10 sA cA E) := HEA.out.keptO hkp HSp.out; have HA2 : Hid (Alike (Mm.wnext V3 fl) N' (tr3 ++ [Mm.wbit V3.ms fl])) := HAl.out.next fl hSo; have HN2 : Hid (N'.length = K) := hSo.1.trans HNl.out; clear hEB hSo H' hkp) | (go_at_call 10; refine (same8_any _ _ _ _ _ _ HEA2.out HEB.out hln.out).mono ?_; rintro e w11 ⟨rfl, hb11⟩; have HS11 : Hid (PlS At W w11 p r gm gh cm ch (Mm.wnext V3 fl) N' (tr3 ++ [Mm.wbit V3.ms fl]) gS (stO a bb fq f)) := HS10.out.on S hb11; clear hb11))
                    all_goals
                      go_wp2_with fail
                      go_meet
                      case rel => exact ⟨N', _, rfl, HA2, HN2, HS11⟩
                  case rest =>
                    obtain ⟨N', tr', rfl, HA2, HN2, HS11⟩ := hcut
                    have HBs2 : Hid ((Mm.wnext V3 fl).bs.length ≤ 300 * k + (j + 1)) := by show (V3.bs ++ [_]).length ≤ _; rw [List.length_append]; have := HBs.out; show V3.bs.length + 1 ≤ _; omega
                    clear t0 t1 t2 t3 t4 t5 t6 HS HSd HRs
                    go_wp2
                    go_roundw
                    case rel => exact ⟨j + 1, _, N', tr', Or.inr (by omega), rfl, HA2, HBs2, HN2, HS11⟩
                    case measure => simp only [intOf]; omega
                · have hj3 : j ≤ 300 := by omega
                  have HBs3 : Hid (V3.bs.length ≤ 300 * (k + 1)) := by show _ ≤ _; have := HBs.out; omega
                  clear t0 t2 t3 t4 t5 t6
                  go_wp2_with fail
                  go_loopw [11] (fun v wr => ∃ (q : Nat), q ≤ K ∧ v = .int .i64 q ∧ Hid (PlS At W wr p r gm gh cm ch V3 N3 tr3 gS (stO a bb fq f))) (fun v _ => K - (intOf v).toNat)
                  case atStart => exact ⟨0, Nat.zero_le _, rfl, HS⟩
                  case round =>
                    clear HS t1
                    obtain ⟨q, hq, rfl, HS⟩ := hrel
                    have c0 : wr.cell? ⟨r, 0, none⟩ = some (.slice (some ⟨gm, 0, none⟩) K cm) := by have := HS.out.ri.c0; rw [HNl.out] at this; exact this
                    by_cases hqK : q < K
                    · obtain ⟨x, hx⟩ : ∃ x, N3[q]? = some x := ⟨_, List.getElem?_eq_getElem (by rw [HNl.out]; exact hqK)⟩
                      have hmq : V3.ms[q]? = some x.m := by rw [← HAl.out.ms, List.getElem?_map, hx]; rfl
                      have hhq : (if q < V3.ms.length then V3.hs.getD q [] else []) = x.h := by rw [if_pos (List.getElem?_eq_some_iff.1 hmq).1, ← HAl.out.hs, List.getD_eq_getElem?_getD, List.getElem?_map, hx]; rfl
                      have hx1 : Hid (x.h.length ≤ 1000) := Nat.le_trans (HAl.out.hd x (List.mem_of_getElem? hx)) (by decide)
                      have HCl : Hid (∀ w', PlS At W w' p r gm gh cm ch V3 N3 tr3 gS (stO a bb fq f) → (w'.cell? ⟨r, 0, none⟩ = some (.slice (some ⟨gm, 0, none⟩) K cm) ∧ w'.cell? ⟨r, 1, none⟩ = some (.slice (some ⟨gh, 0, none⟩) K ch) ∧ w'.cell? ⟨gm, q, none⟩ = some (bptr x.q) ∧ w'.cell? ⟨gh, q, none⟩ = some (.slice x.s x.h.length x.c) ∧ w'.cell? ⟨x.q, 14, none⟩ = some (.int .i64 x.m.cs) ∧ w'.cell? ⟨x.q, 15, none⟩ = some (.int .i64 x.m.cg))) := fun w' h' => by
                        have e0 := h'.ri.c0
                        have e1 := h'.ri.c1
                        rw [HNl.out] at e0 e1
                        have hra : RAt w' x.q _ x.m := ⟨x.qr, h'.ri.mac x (List.mem_of_getElem? hx), rfl⟩
                        exact ⟨e0, e1, h'.ri.cm hx, (h'.ri.ch hx).1, hra.sent, hra.got⟩
                      have HEv : Hid (∀ w', PlS At W w' p r gm gh cm ch V3 N3 tr3 gS (stO a bb fq f) → EvIn w' x.s x.c x.h) := fun w' h' => (h'.ri.ev x (List.mem_of_getElem? hx)).inn
                      have HSd : Hid (PlS At W wr.drew p r gm gh cm ch V3 N3 tr3 gS (stO a bb fq f)) := HS.out.on S ((Below.refl _ _).drew)
                      have HHd : Hid (∀ w', PlS At W w' p r gm gh cm ch V3 N3 tr3 gS (stO a bb fq f) → Calls Tryz.prog 13 #[bptr p, .int .i64 (q : Int)] w' fun e w'' => ∃ s cap, e = .returned (.slice s x.h.length cap) ∧ EvIn w'' s cap x.h ∧ Below w'.heap.size w' w'') := fun w' h' => by
                        obtain ⟨P, hO, _⟩ := h'.ex
                        have hwf : (Lit.int .i64 (q : Int)).wf = true := by
                          have hk : IntKind.i64.min = -9223372036854775808 ∧ IntKind.i64.max = 9223372036854775807 := ⟨rfl, rfl⟩
                          simp only [Lit.wf, hk.1, hk.2, Bool.and_eq_true, decide_eq_true_eq]; omega
                        exact ow_heard S q _ hwf hhq hO
                      have HMc : Hid (∀ w', PlS At W w' p r gm gh cm ch V3 N3 tr3 gS (stO a bb fq f) → Calls Tryz.prog 14 #[bptr p, .int .i64 (q : Int)] w' fun e w'' => e = .returned (bptr (V3.qs.getD q 0)) ∧ Below w'.heap.size w' w'') := fun w' h' => by
                        obtain ⟨P, hO, _⟩ := h'.ex
                        exact ow_mac S q (List.getElem?_eq_some_iff.1 hmq).1 hO
                      have HCo : Hid (∀ w', PlS At W w' p r gm gh cm ch V3 N3 tr3 gS (stO a bb fq f) → Calls Tryz.prog 15 #[bptr (V3.qs.getD q 0)] w' fun e w'' => e = .returned (.agg #[.int .i64 x.m.cs, .int .i64 x.m.cg]) ∧ Below w'.heap.size w' w'') := fun w' h' => by
                        obtain ⟨P, hO, hC, _⟩ := h'.ex
                        exact ow_counts S q hmq hO hC.tab
                      have hqI : (q : Int) < (K : Int) := by omega
                      clear hx hmq hhq
                      generalize V3.qs.getD q 0 = qp at HMc HCo
                      go_wp2_with fail
                      go_cut [139] from 111 to 139 (fun v wx => v = .bool false ∧ Hid (PlS At W wx p r gm gh cm ch V3 N3 tr3 gS (stO a bb fq f)))
                      case first =>
                        clear c0
                        refine wp_region_held_drew (S := fun w' => (w'.cell? ⟨r, 0, none⟩ = some (.slice (some ⟨gm, 0, none⟩) K cm) ∧ w'.cell? ⟨r, 1, none⟩ = some (.slice (some ⟨gh, 0, none⟩) K ch) ∧ w'.cell? ⟨gm, q, none⟩ = some (bptr x.q) ∧ w'.cell? ⟨gh, q, none⟩ = some (.slice x.s x.h.length x.c) ∧ w'.cell? ⟨x.q, 14, none⟩ = some (.int .i64 x.m.cs) ∧ w'.cell? ⟨x.q, 15, none⟩ = some (.int .i64 x.m.cg))) (by kernel_rfl) (HCl.out _ HSd.out) (fun hHeld => ?_)
                        refine takeL (i := 0) (d := 111) (v := ?_) rfl (by kernel_rfl) (by kernel_rfl) (by kernel_rfl) (fun _ _ _ h => h) (by rfl) ?_ (by assumption) ?_
                        rotate_left
                        · intro w hSw; (try dsimp only at hSw); go_simp; (try with_reducible rfl)
                        simp only [Act.put, List.setIfInBounds_toArray, List.set_cons_zero, List.set_cons_succ]
                        refine takeL (i := 1) (d := 112) (v := ?_) rfl (by kernel_rfl) (by kernel_rfl) (by kernel_rfl) (fun _ _ _ h => h) (by rfl) ?_ (by assumption) ?_
                        rotate_left
                        · intro w hSw; (try dsimp only at hSw); go_simp; (try with_reducible rfl)
                        simp only [Act.put, List.setIfInBounds_toArray, List.set_cons_zero, List.set_cons_succ]
                        refine takeL (i := 3) (d := 114) (v := ?_) rfl (by kernel_rfl) (by kernel_rfl) (by kernel_rfl) (fun _ _ _ h => h) (by rfl) ?_ (by assumption) ?_
                        rotate_left
                        · intro w hSw; (try dsimp only at hSw); go_simp; (try with_reducible rfl)
                        simp only [Act.put, List.setIfInBounds_toArray, List.set_cons_zero, List.set_cons_succ]
                        refine takeL (i := 4) (d := 115) (v := ?_) rfl (by kernel_rfl) (by kernel_rfl) (by kernel_rfl) (fun _ _ _ h => h) (by rfl) ?_ (by assumption) ?_
                        rotate_left
                        · intro w hSw; (try dsimp only at hSw); go_simp; (try with_reducible rfl)
                        simp only [Act.put, List.setIfInBounds_toArray, List.set_cons_zero, List.set_cons_succ]
                        refine takeL (i := 5) (d := 116) (v := ?_) rfl (by kernel_rfl) (by kernel_rfl) (by kernel_rfl) (fun _ _ _ h => h) (by rfl) ?_ (by assumption) ?_
                        rotate_left
                        · intro w hSw; (try dsimp only at hSw); go_simp; (try with_reducible rfl)
                        simp only [Act.put, List.setIfInBounds_toArray, List.set_cons_zero, List.set_cons_succ]
                        refine takeL (i := 6) (d := 117) (v := ?_) rfl (by kernel_rfl) (by kernel_rfl) (by kernel_rfl) (fun _ _ _ h => h) (by rfl) ?_ (by assumption) ?_
                        rotate_left
                        · intro w hSw; (try dsimp only at hSw); go_simp; (try with_reducible rfl)
                        simp only [Act.put, List.setIfInBounds_toArray, List.set_cons_zero, List.set_cons_succ]
                        refine takeL (i := 7) (d := 118) (v := ?_) rfl (by kernel_rfl) (by kernel_rfl) (by kernel_rfl) (fun _ _ _ h => h) (by rfl) ?_ (by assumption) ?_
                        rotate_left
                        · intro w hSw; (try dsimp only at hSw); go_simp; (try with_reducible rfl)
                        simp only [Act.put, List.setIfInBounds_toArray, List.set_cons_zero, List.set_cons_succ]
                        refine takeL (i := 8) (d := 119) (v := ?_) rfl (by kernel_rfl) (by kernel_rfl) (by kernel_rfl) (fun _ _ _ h => h) (by rfl) ?_ (by assumption) ?_
                        rotate_left
                        · intro w hSw; (try dsimp only at hSw); go_simp; (try with_reducible rfl)
                        simp only [Act.put, List.setIfInBounds_toArray, List.set_cons_zero, List.set_cons_succ]
                        refine takeL (i := 9) (d := 120) (v := ?_) rfl (by kernel_rfl) (by kernel_rfl) (by kernel_rfl) (fun _ _ _ h => h) (by rfl) ?_ (by assumption) ?_
                        rotate_left
                        · intro w hSw; (try dsimp only at hSw); go_simp; (try with_reducible rfl)
                        simp only [Act.put, List.setIfInBounds_toArray, List.set_cons_zero, List.set_cons_succ]
                        refine consL (i := 2) (d := 113) rfl (by kernel_rfl) (fun K' hK' => ?_)
                        go_simp
                        refine (HHd.out _ HSd.out).mono ?_
                        rintro e w' ⟨sA, cA, rfl, hEA, hb'⟩
                        have HEA : Hid (EvIn w' sA cA x.h) := hEA
                        have HSa : Hid (PlS At W w' p r gm gh cm ch V3 N3 tr3 gS (stO a bb fq f)) := HSd.out.on S hb'
                        clear hb' hEA hHeld
                        try go_wp2_with fail
                        refine hK'.out _ _ (HCl.out _ HSa.out) (fun hHeld => ?_)
                        clear hK' K'
                        refine consL (i := 10) (d := 121) rfl (by kernel_rfl) (fun K' hK' => ?_)
                        go_simp
                        refine (same8_any _ _ _ _ _ _ HEA.out (HEv.out _ HSa.out) hx1.out).mono ?_
                        rintro e w' ⟨rfl, hb'⟩
                        replace HSa : Hid (PlS At W w' p r gm gh cm ch V3 N3 tr3 gS (stO a bb fq f)) := HSa.out.on S hb'
                        clear hb' HEA hHeld
                        try go_wp2_with fail
                        refine hK'.out _ _ (HCl.out _ HSa.out) (fun hHeld => ?_)
                        clear hK' K'
                        refine takeL (i := 11) (d := 122) (v := ?_) rfl (by kernel_rfl) (by kernel_rfl) (by kernel_rfl) (fun _ _ _ h => h) (by rfl) ?_ (by assumption) ?_
                        rotate_left
                        · intro w hSw; (try dsimp only at hSw); go_simp; (try with_reducible rfl)
                        simp only [Act.put, List.setIfInBounds_toArray, List.set_cons_zero, List.set_cons_succ]
                        refine takeL (i := 12) (d := 123) (v := ?_) rfl (by kernel_rfl) (by kernel_rfl) (by kernel_rfl) (fun _ _ _ h => h) (by rfl) ?_ (by assumption) ?_
                        rotate_left
                        · intro w hSw; (try dsimp only at hSw); go_simp; (try with_reducible rfl)
                        simp only [Act.put, List.setIfInBounds_toArray, List.set_cons_zero, List.set_cons_succ]
                        refine takeL (i := 13) (d := 124) (v := ?_) rfl (by kernel_rfl) (by kernel_rfl) (by kernel_rfl) (fun _ _ _ h => h) (by rfl) ?_ (by assumption) ?_
                        rotate_left
                        · intro w hSw; (try dsimp only at hSw); go_simp; (try with_reducible rfl)
                        simp only [Act.put, List.setIfInBounds_toArray, List.set_cons_zero, List.set_cons_succ]
                        refine takeL (i := 14) (d := 125) (v := ?_) rfl (by kernel_rfl) (by kernel_rfl) (by kernel_rfl) (fun _ _ _ h => h) (by rfl) ?_ (by assumption) ?_
                        rotate_left
                        · intro w hSw; (try dsimp only at hSw); go_simp; (try with_reducible rfl)
                        simp only [Act.put, List.setIfInBounds_toArray, List.set_cons_zero, List.set_cons_succ]
                        refine takeL (i := 17) (d := 128) (v := ?_) rfl (by kernel_rfl) (by kernel_rfl) (by kernel_rfl) (fun _ _ _ h => h) (by rfl) ?_ (by assumption) ?_
                        rotate_left
                        · intro w hSw; (try dsimp only at hSw); go_simp; (try with_reducible rfl)
                        simp only [Act.put, List.setIfInBounds_toArray, List.set_cons_zero, List.set_cons_succ]
                        refine takeL (i := 18) (d := 129) (v := ?_) rfl (by kernel_rfl) (by kernel_rfl) (by kernel_rfl) (fun _ _ _ h => h) (by rfl) ?_ (by assumption) ?_
                        rotate_left
                        · intro w hSw; (try dsimp only at hSw); go_simp; (try with_reducible rfl)
                        simp only [Act.put, List.setIfInBounds_toArray, List.set_cons_zero, List.set_cons_succ]
                        refine takeL (i := 19) (d := 130) (v := ?_) rfl (by kernel_rfl) (by kernel_rfl) (by kernel_rfl) (fun _ _ _ h => h) (by rfl) ?_ (by assumption) ?_
                        rotate_left
                        · intro w hSw; (try dsimp only at hSw); go_simp; (try with_reducible rfl)
                        simp only [Act.put, List.setIfInBounds_toArray, List.set_cons_zero, List.set_cons_succ]
                        refine takeL (i := 20) (d := 131) (v := ?_) rfl (by kernel_rfl) (by kernel_rfl) (by kernel_rfl) (fun _ _ _ h => h) (by rfl) ?_ (by assumption) ?_
                        rotate_left
                        · intro w hSw; (try dsimp only at hSw); go_simp; (try with_reducible rfl)
                        simp only [Act.put, List.setIfInBounds_toArray, List.set_cons_zero, List.set_cons_succ]
                        refine takeL (i := 21) (d := 132) (v := ?_) rfl (by kernel_rfl) (by kernel_rfl) (by kernel_rfl) (fun _ _ _ h => h) (by rfl) ?_ (by assumption) ?_
                        rotate_left
                        · intro w hSw; (try dsimp only at hSw); go_simp; (try with_reducible rfl)
                        simp only [Act.put, List.setIfInBounds_toArray, List.set_cons_zero, List.set_cons_succ]
                        refine takeL (i := 22) (d := 133) (v := ?_) rfl (by kernel_rfl) (by kernel_rfl) (by kernel_rfl) (fun _ _ _ h => h) (by rfl) ?_ (by assumption) ?_
                        rotate_left
                        · intro w hSw; (try dsimp only at hSw); go_simp; (try with_reducible rfl)
                        simp only [Act.put, List.setIfInBounds_toArray, List.set_cons_zero, List.set_cons_succ]
                        refine takeL (i := 23) (d := 134) (v := ?_) rfl (by kernel_rfl) (by kernel_rfl) (by kernel_rfl) (fun _ _ _ h => h) (by rfl) ?_ (by assumption) ?_
                        rotate_left
                        · intro w hSw; (try dsimp only at hSw); go_simp; (try with_reducible rfl)
                        simp only [Act.put, List.setIfInBounds_toArray, List.set_cons_zero, List.set_cons_succ]
                        refine takeL (i := 24) (d := 135) (v := ?_) rfl (by kernel_rfl) (by kernel_rfl) (by kernel_rfl) (fun _ _ _ h => h) (by rfl) ?_ (by assumption) ?_
                        rotate_left
                        · intro w hSw; (try dsimp only at hSw); go_simp; (try with_reducible rfl)
                        simp only [Act.put, List.setIfInBounds_toArray, List.set_cons_zero, List.set_cons_succ]
                        refine takeL (i := 25) (d := 136) (v := ?_) rfl (by kernel_rfl) (by kernel_rfl) (by kernel_rfl) (fun _ _ _ h => h) (by rfl) ?_ (by assumption) ?_
                        rotate_left
                        · intro w hSw; (try dsimp only at hSw); go_simp; (try with_reducible rfl)
                        simp only [Act.put, List.setIfInBounds_toArray, List.set_cons_zero, List.set_cons_succ]
                        refine takeL (i := 26) (d := 137) (v := ?_) rfl (by kernel_rfl) (by kernel_rfl) (by kernel_rfl) (fun _ _ _ h => h) (by rfl) ?_ (by assumption) ?_
                        rotate_left
                        · intro w hSw; (try dsimp only at hSw); go_simp; (try with_reducible rfl)
                        simp only [Act.put, List.setIfInBounds_toArray, List.set_cons_zero, List.set_cons_succ]
                        refine consL (i := 15) (d := 126) rfl (by kernel_rfl) (fun K' hK' => ?_)
                        go_simp
                        refine (HMc.out _ HSa.out).mono ?_
                        rintro e w' ⟨rfl, hb'⟩
                        replace HSa : Hid (PlS At W w' p r gm gh cm ch V3 N3 tr3 gS (stO a bb fq f)) := HSa.out.on S hb'
                        clear hb' hHeld
                        try go_wp2_with fail
                        refine hK'.out _ _ (HCl.out _ HSa.out) (fun hHeld => ?_)
                        clear hK' K'
                        refine consL (i := 16) (d := 127) rfl (by kernel_rfl) (fun K' hK' => ?_)
                        go_simp
                        refine (HCo.out _ HSa.out).mono ?_
                        rintro e w' ⟨rfl, hb'⟩
                        replace HSa : Hid (PlS At W w' p r gm gh cm ch V3 N3 tr3 gS (stO a bb fq f)) := HSa.out.on S hb'
                        clear hb' hHeld
                        try go_wp2_with fail
                        refine hK'.out _ _ (HCl.out _ HSa.out) (fun hHeld => ?_)
                        clear hK' K'
                        refine takeL (i := 27) (d := 138) (v := ?_) rfl (by kernel_rfl) (by kernel_rfl) (by kernel_rfl) (fun _ _ _ h => h) (by rfl) ?_ (by assumption) ?_
                        rotate_left
                        · intro w hSw; (try dsimp only at hSw); go_simp; (try with_reducible rfl)
                        simp only [Act.put, List.setIfInBounds_toArray, List.set_cons_zero, List.set_cons_succ]
                        refine takeL (i := 28) (d := 139) (v := ?_) rfl (by kernel_rfl) (by kernel_rfl) (by kernel_rfl) (fun _ _ _ h => h) (by rfl) ?_ (by assumption) ?_
                        rotate_left
                        · intro w hSw; (try dsimp only at hSw); go_simp; (try with_reducible rfl)
                        simp only [Act.put, List.setIfInBounds_toArray, List.set_cons_zero, List.set_cons_succ]
                        refine wpAnyH_done (by kernel_rfl) ?_ _
                        go_wp2_with fail
                        go_meet
                        case rel => exact ⟨rfl, HSa⟩
                      case rest =>
                        obtain ⟨rfl, HS12⟩ := hcut
                        clear HS HSd HHd HMc HCo HCl HEv c0
                        go_wp2
                        go_roundw
                        case rel => exact ⟨q + 1, by omega, rfl, HS12⟩
                        case measure => simp only [intOf]; omega
                    · have hqe : ¬ ((q : Int) < (K : Int)) := by omega
                      have HP : Hid (Pl At W wr p r gm gh cm ch V3 N3 tr3) := HS.out.pl
                      obtain ⟨D, hD⟩ := HP.out.trace S HAl.out (by have := HBs3.out; omega)
                      have HD : Hid (∀ w', Below wr.heap.size wr w' → (Calls Tryz.prog 16 #[bptr p] w' fun e w'' => e = .returned (bptr V3.qb) ∧ Below w'.heap.size w' w'') ∧ (Calls Tryz.prog 17 #[bptr V3.qb] w' fun e w'' => e = .returned (.string D) ∧ Below w'.heap.size w' w'') ∧ w'.cell? ⟨r, 2, none⟩ = some (.string D)) := hD
                      clear hD HS
                      generalize V3.qb = qb3 at HD
                      go_wp2_with fail
                      clear c0
                      refine Lw.wp_region_quiet_below (by kernel_rfl) (by kernel_rfl) ?_
                      repeat (first
                        | go_big_quiet_skip
                        | (go_big_quiet_want; go_big_quiet_op; go_big_quiet_on)
                        | (go_big_quiet_want; go_big_quiet_op; apply Exists.intro; refine ⟨fun _ hb' => ?_, ?_⟩; (first
                          | exact Lw.val_rfl _
                          | (go_at_call 16; exact Lw.calls_below hb' (HD.out _ hb').1)
                          | (go_at_call 17; exact Lw.calls_below hb' (HD.out _ hb').2.1)
                          | (simp [go_sem, (HD.out _ hb').2.2]; rfl)); go_big_quiet_on))
                      refine wpQuiet_nil ?_
                      intro w9 hb9
                      have HP9 : Hid (Pl At W w9 p r gm gh cm ch V3 N3 tr3) := HP.out.on S hb9
                      clear HP HD hb9
                      go_wp2
                      go_roundw
                      case rel => exact ⟨k + 1, V3, N3, tr3, by omega, rfl, HAl, HBs3, HNl, HP9⟩
                      case measure => simp only [intOf]; omega
    · have hBl : Hid (V.bs.length ≤ 3000) := by show _ ≤ _; have := HBs.out; omega
      go_wp2_with fail
      refine (pl_copy S HP.out hBl.out).mono ?_
      rintro e w5 ⟨qc, G, VC, rfl, hA5, hl5, hG5, hb5⟩
      have HA5 : Hid (At w5 qc G VC ∧ VC.bs.length ≤ 100000 ∧ (∀ g, G g → wr.heap.size ≤ g) ∧ Below wr.heap.size wr w5) := ⟨hA5, hl5, hG5, hb5⟩
      clear hA5 hl5 hG5 hb5
      go_wp2_with fail
      refine (pl_cstep S true HP.out HA5.out.2.2.2 HA5.out.1 HA5.out.2.1 HA5.out.2.2.1).mono ?_
      rintro e w6 ⟨⟨s6, n6, c6, rfl⟩, H'⟩
      have HP6 : Hid (Pl At W w6 p r gm gh cm ch V N tr) := H'
      clear H' HP HA5
      obtain ⟨D, hD⟩ := HP6.out.trace S HAl.out hBl.out
      have HD : Hid (∀ w', Below w6.heap.size w6 w' → (Calls Tryz.prog 16 #[bptr p] w' fun e w'' => e = .returned (bptr V.qb) ∧ Below w'.heap.size w' w'') ∧ (Calls Tryz.prog 17 #[bptr V.qb] w' fun e w'' => e = .returned (.string D) ∧ Below w'.heap.size w' w'') ∧ w'.cell? ⟨r, 2, none⟩ = some (.string D)) := hD
      clear hD
      generalize V.qb = qb3 at HD
      go_wp2_with fail
      refine Lw.wp_region_quiet_below (by kernel_rfl) (by kernel_rfl) ?_
      repeat (first
        | go_big_quiet_skip
        | (go_big_quiet_want; go_big_quiet_op; go_big_quiet_on)
        | (go_big_quiet_want; go_big_quiet_op; apply Exists.intro; refine ⟨fun _ hb' => ?_, ?_⟩; (first
          | exact Lw.val_rfl _
          | (go_at_call 16; exact Lw.calls_below hb' (HD.out _ hb').1)
          | (go_at_call 17; exact Lw.calls_below hb' (HD.out _ hb').2.1)
          | (simp [go_sem, (HD.out _ hb').2.2]; rfl)); go_big_quiet_on))
      refine wpQuiet_nil ?_
      intro w9 hb9
      have HP9 : Hid (Pl At W w9 p r gm gh cm ch V N tr) := HP6.out.on S hb9
      clear HP6 HD hb9
      go_wp2
      go_ret
      exact ⟨rfl, HP9.out.below⟩
theorem walkA (S : WireSpec At) (S2 : StepOwn At) (a0 : Int) (w0 : (Lit.int .i64 a0).wf = true) (s1 : Option Addr) (len1 cap1 : Nat) (W : World) (hT : Tab W) (h1 : ∃ wh bi fp fr, StepRow8 W s1 len1 wh bi fp fr) :
    Calls Tryz.prog 3 #[.int .i64 a0, .slice s1 len1 cap1] W fun e w' => e = .returned (.bool true) ∧ Below W.heap.size W w' := by
  obtain ⟨wh, bi, fp, fr, hR⟩ := h1
  by_cases h : 10 < len1
  · exact long S a0 s1 len1 cap1 h W hT
  · exact row S S2 a0 w0 s1 len1 cap1 wh bi fp fr (by omega) W hT hR
end Go.Proofs.YthkaekpoicodeaaGreatDoor.wirePlays
