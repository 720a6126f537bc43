/- ObjectOwners: of every slice of at most twelve bytes, byte and text of at most eight bytes (others are let by): each message can be sent by its owner alone, whatever others do; no condition. -/
import Derived.Test.YtkgeknkppnadfaaY18
import Derived.Test.YtkgeknkppnadfaaW18
import Derived.Test.YtkgeknkppnadfaaMe
import Derived.ProofKit
import Derived.OpenShut
import Derived.Deep.CutBlock
namespace Go.Proofs.Ytkgeknkppnadfaa.objectOwners
open Go.ChangeShapes Go.WideShapes Go.ChangeAt Go.RowKit
set_option linter.unusedVariables false
variable {Q : World → Prop} {At : World → Ob.A Q18.St}
set_option maxRecDepth 100000 in
set_option maxHeartbeats 8000000 in
theorem walkA (hQ : ∀ w w', Q w → Below w.heap.size w w' → Q w') (S : ObjectSpec Q At) (W : World) (hW : Q W) (s0 : Option Addr) (len0 cap0 : Nat) (B : Nat → Nat) (hin : IsU19 W s0 len0 B) (a1 : Int) (w1 : (Lit.int .u8 a1).wf = true) (D : ByteArray) : Calls Try.prog 5 #[.slice s0 len0 cap0, .int .u8 a1, .string D] W fun e w' => e = .returned (.bool true) ∧ Below W.heap.size W w' := by
  obtain ⟨who, rfl, hwho⟩ := natU8w w1
  obtain ⟨u, hu⟩ : ∃ u, who % 4 = u := ⟨_, rfl⟩
  have tu : (who : Int).tmod 4 = (u : Int) := by rw [Int.tmod_eq_emod_of_nonneg (by omega)]; omega
  have eu : (who : Int) % 4 = (u : Int) := by omega
  have HU : Hid ((Lit.int .i64 (u : Int)).wf = true ∧ u < 4) := ⟨wf18 (by omega), by omega⟩
  have uI : (u : Int) < 4 := by omega
  clear hu hwho w1
  go_enter Try.func5, Try.ntmps5
  go_wp2_with fail
  refine (known18_any hQ S W hW).mono ?_
  rintro e w1 ⟨rfl, hb⟩
  have HB : Hid (Below W.heap.size W w1) := hb
  clear hb
  by_cases h12 : 12 < len0
  · have h12i : (12 : Int) < (len0 : Int) := by omega
    have d12 : decide ((12 : Int) < (len0 : Int)) = true := decide_eq_true h12i
    clear hin
    go_wp2
    go_ret
    exact ⟨rfl, HB.out⟩
  have h12i : ¬ ((12 : Int) < (len0 : Int)) := by omega
  have d12 : decide ((12 : Int) < (len0 : Int)) = false := decide_eq_false h12i
  by_cases h8 : 8 < D.size
  · have h8i : (8 : Int) < (D.size : Int) := by omega
    have d8 : decide ((8 : Int) < (D.size : Int)) = true := decide_eq_true h8i
    clear hin
    go_wp2
    go_ret
    exact ⟨rfl, HB.out⟩
  have h8i : ¬ ((8 : Int) < (D.size : Int)) := by omega
  have d8 : decide ((8 : Int) < (D.size : Int)) = false := decide_eq_false h8i
  have HD8 : Hid (¬ 8 < D.size) := h8
  have HN : Hid (len0 ≤ 12) := (by omega : len0 ≤ 12)
  have HEl : Hid (∀ i, i < len0 → ∃ b off, s0 = some ⟨b, off, none⟩ ∧ (∀ w', Below W.heap.size W w' → w'.cell? ⟨b, off + i, none⟩ = some (.int .u8 (B i : Int))) ∧ B i < 256) := fun i hi => by
    obtain ⟨b, off, hs, hc, hB⟩ := hin i hi
    exact ⟨b, off, hs, fun w' hbl => (hbl.cell (p := ⟨b, off + i, none⟩) (block_lt_of_cell hc)).trans hc, hB⟩
  clear hin h12 h8
  have HM0 : Hid (Mb W (w1.alloc (.cells #[.int .i64 0, .int .i64 0, .int .i64 0, .int .i64 0, .int .i64 0, .int .i64 0, .int .i64 0, .int .u32 0, .slice none 0 0, .slice none 0 0, .slice none 0 0] 29)) w1.heap.size { Mx.nil0 with messages := Q18.ms B 0 } ⟨none, 0, none, 0, none, 0⟩) := by
    have hal : Below w1.heap.size w1 (w1.alloc (.cells #[.int .i64 0, .int .i64 0, .int .i64 0, .int .i64 0, .int .i64 0, .int .i64 0, .int .i64 0, .int .u32 0, .slice none 0 0, .slice none 0 0, .slice none 0 0] 29)) := (Below.refl _ _).alloc (Nat.le_refl _) _
    exact ⟨HB.out.trans (hal.mono HB.out.size), HB.out.size, RowT.new _ _ _, Sg.OL.nil _ _ _ _, Sg.OL.nil _ _ _ _, Sg.OL.nil _ _ _ _⟩
  have HWq : Hid (∀ w', Below W.heap.size W w' → Q w') := fun w' hb => hQ W w' hW hb
  have HQn : Hid (∀ w w', Q w → Below w.heap.size w w' → Q w') := hQ
  clear HB hW hQ
  go_upto_region 6 with fail
  generalize w1.alloc (.cells #[.int .i64 0, .int .i64 0, .int .i64 0, .int .i64 0, .int .i64 0, .int .i64 0, .int .i64 0, .int .u32 0, .slice none 0 0, .slice none 0 0, .slice none 0 0] 29) = v0 at HM0 ⊢
  generalize w1.heap.size = q at HM0 ⊢
  go_wp2_with fail
  go_loopw [8] (fun vi wr => ∃ (i : Nat) (sa : Option Addr) (ca : Nat), i ≤ len0 ∧ vi = .int .i64 (i : Int) ∧ Hid (Mb W wr q { Mx.nil0 with messages := Q18.ms B i } ⟨none, 0, sa, ca, none, 0⟩)) (fun vi _ => len0 - (intOf vi).toNat)
  case atStart => exact ⟨0, none, 0, Nat.zero_le _, rfl, HM0⟩
  case round =>
    clear HM0
    obtain ⟨i, sa, ca, hi, rfl, HM⟩ := hrel
    by_cases hil : i < len0
    · obtain ⟨b, off, rfl, hc, hB⟩ := HEl.out i hil
      have ii : (i : Int) < (len0 : Int) := by omega
      have ib : (i : Int) < 1000 := by have := HN.out; omega
      have HI : Hid (i ≤ 12) := (by have := HN.out; omega : i ≤ 12)
      obtain ⟨x, hx⟩ : ∃ x, B i % 4 = x := ⟨_, rfl⟩
      have HMs : Hid (Q18.ms B (i + 1) = Q18.ms B i ++ [⟨i, (x : Int), false⟩]) := by show _ = _; rw [Q18.ms_succ, hx]
      have tx : (B i : Int).tmod 4 = (x : Int) := by rw [Int.tmod_eq_emod_of_nonneg (by omega)]; omega
      have ex : (B i : Int) % 4 = (x : Int) := by omega
      have xI : (x : Int) < 4 := by omega
      have wu : IntKind.u32.wrap (i : Int) = (i : Int) := by rw [IntKind.wrap_u32]; omega
      have wx : IntKind.i64.wrap (x : Int) = (x : Int) := by rw [IntKind.wrap_i64]; omega
      have HMd : Hid (Mb W wr.drew q { Mx.nil0 with messages := Q18.ms B i } ⟨none, 0, sa, ca, none, 0⟩) := HM.out.on (Below.refl _ _).drew
      have HEon : Hid (∀ w', Below wr.heap.size wr w' → w'.cell? ⟨b, off + i, none⟩ = some (.int .u8 (B i : Int))) := fun w' hb => hc w' (HM.out.bel.trans (hb.mono HM.out.bel.size))
      have hlen : (Q18.ms B i).length = i := Q18.ms_len B i
      have HL : Hid ((Q18.ms B i).length = i) := hlen
      clear hc hx
      generalize (B i : Int) = y at *
      go_wp2_with fail
      refine Hm.start [12, 14] (fun w' => Below wr.heap.size wr w') (by kernel_rfl) (Below.refl _ _).drew (fun hHeld => ?_)
      generalize wr.drew = vd at hHeld HMd ⊢
      refine Hm.takeM (i := 0) (d := 32) (v := ?_) rfl (by kernel_rfl) (by kernel_rfl) (by kernel_rfl) (by kernel_rfl) (by kernel_rfl) (by kernel_rfl) (fun _ _ _ h => h) (by rfl) ?_ (by first | assumption | trivial) ?_
      rotate_left
      · intro w hSw; have z9 := (HM.out.row.on hSw).mat.2.2.2.2.2.2.2.2.2.1; dsimp only at z9; rw [HL.out] at z9; have e0 := HEon.out _ hSw; go_simp; (try with_reducible rfl)
      simp only [Act.put, List.setIfInBounds_toArray, List.set_cons_zero, List.set_cons_succ]
      refine Hm.takeM (i := 1) (d := 33) (v := ?_) rfl (by kernel_rfl) (by kernel_rfl) (by kernel_rfl) (by kernel_rfl) (by kernel_rfl) (by kernel_rfl) (fun _ _ _ h => h) (by rfl) ?_ (by first | assumption | trivial) ?_
      rotate_left
      · intro w hSw; have z9 := (HM.out.row.on hSw).mat.2.2.2.2.2.2.2.2.2.1; dsimp only at z9; rw [HL.out] at z9; have e0 := HEon.out _ hSw; go_simp; (try with_reducible rfl)
      simp only [Act.put, List.setIfInBounds_toArray, List.set_cons_zero, List.set_cons_succ]
      refine Hm.takeM (i := 2) (d := 34) (v := ?_) rfl (by kernel_rfl) (by kernel_rfl) (by kernel_rfl) (by kernel_rfl) (by kernel_rfl) (by kernel_rfl) (fun _ _ _ h => h) (by rfl) ?_ (by first | assumption | trivial) ?_
      rotate_left
      · intro w hSw; have z9 := (HM.out.row.on hSw).mat.2.2.2.2.2.2.2.2.2.1; dsimp only at z9; rw [HL.out] at z9; have e0 := HEon.out _ hSw; go_simp; (try with_reducible rfl)
      simp only [Act.put, List.setIfInBounds_toArray, List.set_cons_zero, List.set_cons_succ]
      refine Hm.takeM (i := 3) (d := 35) (v := ?_) rfl (by kernel_rfl) (by kernel_rfl) (by kernel_rfl) (by kernel_rfl) (by kernel_rfl) (by kernel_rfl) (fun _ _ _ h => h) (by rfl) ?_ (by first | assumption | trivial) ?_
      rotate_left
      · intro w hSw; have z9 := (HM.out.row.on hSw).mat.2.2.2.2.2.2.2.2.2.1; dsimp only at z9; rw [HL.out] at z9; have e0 := HEon.out _ hSw; go_simp; (try with_reducible rfl)
      simp only [Act.put, List.setIfInBounds_toArray, List.set_cons_zero, List.set_cons_succ]
      refine Hm.takeM (i := 4) (d := 36) (v := ?_) rfl (by kernel_rfl) (by kernel_rfl) (by kernel_rfl) (by kernel_rfl) (by kernel_rfl) (by kernel_rfl) (fun _ _ _ h => h) (by rfl) ?_ (by first | assumption | trivial) ?_
      rotate_left
      · intro w hSw; have z9 := (HM.out.row.on hSw).mat.2.2.2.2.2.2.2.2.2.1; dsimp only at z9; rw [HL.out] at z9; have e0 := HEon.out _ hSw; go_simp; (try with_reducible rfl)
      simp only [Act.put, List.setIfInBounds_toArray, List.set_cons_zero, List.set_cons_succ]
      refine Hm.takeM (i := 5) (d := 37) (v := ?_) rfl (by kernel_rfl) (by kernel_rfl) (by kernel_rfl) (by kernel_rfl) (by kernel_rfl) (by kernel_rfl) (fun _ _ _ h => h) (by rfl) ?_ (by first | assumption | trivial) ?_
      rotate_left
      · intro w hSw; have z9 := (HM.out.row.on hSw).mat.2.2.2.2.2.2.2.2.2.1; dsimp only at z9; rw [HL.out] at z9; have e0 := HEon.out _ hSw; go_simp; (try with_reducible rfl)
      simp only [Act.put, List.setIfInBounds_toArray, List.set_cons_zero, List.set_cons_succ]
      refine Hm.takeM (i := 6) (d := 38) (v := ?_) rfl (by kernel_rfl) (by kernel_rfl) (by kernel_rfl) (by kernel_rfl) (by kernel_rfl) (by kernel_rfl) (fun _ _ _ h => h) (by rfl) ?_ (by first | assumption | trivial) ?_
      rotate_left
      · intro w hSw; have z9 := (HM.out.row.on hSw).mat.2.2.2.2.2.2.2.2.2.1; dsimp only at z9; rw [HL.out] at z9; have e0 := HEon.out _ hSw; go_simp; (try with_reducible rfl)
      simp only [Act.put, List.setIfInBounds_toArray, List.set_cons_zero, List.set_cons_succ]
      refine Hm.takeM (i := 7) (d := 39) (v := ?_) rfl (by kernel_rfl) (by kernel_rfl) (by kernel_rfl) (by kernel_rfl) (by kernel_rfl) (by kernel_rfl) (fun _ _ _ h => h) (by rfl) ?_ (by first | assumption | trivial) ?_
      rotate_left
      · intro w hSw; have z9 := (HM.out.row.on hSw).mat.2.2.2.2.2.2.2.2.2.1; dsimp only at z9; rw [HL.out] at z9; have e0 := HEon.out _ hSw; go_simp; (try with_reducible rfl)
      simp only [Act.put, List.setIfInBounds_toArray, List.set_cons_zero, List.set_cons_succ]
      refine Hm.takeM (i := 8) (d := 40) (v := ?_) rfl (by kernel_rfl) (by kernel_rfl) (by kernel_rfl) (by kernel_rfl) (by kernel_rfl) (by kernel_rfl) (fun _ _ _ h => h) (by rfl) ?_ (by first | assumption | trivial) ?_
      rotate_left
      · intro w hSw; have z9 := (HM.out.row.on hSw).mat.2.2.2.2.2.2.2.2.2.1; dsimp only at z9; rw [HL.out] at z9; have e0 := HEon.out _ hSw; go_simp; (try with_reducible rfl)
      simp only [Act.put, List.setIfInBounds_toArray, List.set_cons_zero, List.set_cons_succ]
      refine Hm.takeM (i := 9) (d := 41) (v := ?_) rfl (by kernel_rfl) (by kernel_rfl) (by kernel_rfl) (by kernel_rfl) (by kernel_rfl) (by kernel_rfl) (fun _ _ _ h => h) (by rfl) ?_ (by first | assumption | trivial) ?_
      rotate_left
      · intro w hSw; have z9 := (HM.out.row.on hSw).mat.2.2.2.2.2.2.2.2.2.1; dsimp only at z9; rw [HL.out] at z9; have e0 := HEon.out _ hSw; go_simp; (try with_reducible rfl)
      simp only [Act.put, List.setIfInBounds_toArray, List.set_cons_zero, List.set_cons_succ]
      refine Hm.takeM (i := 10) (d := 42) (v := ?_) rfl (by kernel_rfl) (by kernel_rfl) (by kernel_rfl) (by kernel_rfl) (by kernel_rfl) (by kernel_rfl) (fun _ _ _ h => h) (by rfl) ?_ (by first | assumption | trivial) ?_
      rotate_left
      · intro w hSw; have z9 := (HM.out.row.on hSw).mat.2.2.2.2.2.2.2.2.2.1; dsimp only at z9; rw [HL.out] at z9; have e0 := HEon.out _ hSw; go_simp; (try with_reducible rfl)
      simp only [Act.put, List.setIfInBounds_toArray, List.set_cons_zero, List.set_cons_succ]
      refine Hm.consS (i := 11) rfl (by kernel_rfl) (fun K' hK' => ?_)
      have HSn : Hid (Src Try.prog 3 22 (.slice (some ⟨vd.heap.size, 0, none⟩) 1 1) 1 [.int .u32 (i : Int), .int .i64 (x : Int), .bool false] (vd.alloc (.cells #[.int .u32 (i : Int), .int .i64 (x : Int), .bool false] 62))) := Sg.src_new Try.underlying22 vd 62 3 1 _ rfl (fun u hu => by simp only [List.mem_cons, List.not_mem_nil, or_false] at hu; rcases hu with rfl | rfl | rfl <;> rfl)
      have HBn : Hid (Mb W (vd.alloc (.cells #[.int .u32 (i : Int), .int .i64 (x : Int), .bool false] 62)) q { Mx.nil0 with messages := Q18.ms B i } ⟨none, 0, sa, ca, none, 0⟩) := HMd.out.al _
      go_simp
      refine hK'.out _ _ (hHeld.alloc hHeld.size _) (fun hHeld2 => ?_)
      clear hK' K' hHeld hHeld2
      refine Hm.consF (i := 12) rfl (by kernel_rfl) (by rfl) (fun K' hK' => ?_)
      refine Sg.step_appendO Mb.elG rfl (.tmp 33) (.tmp 43) 22 rfl rfl rfl (c := ca) (s := sa) (n := i) (C := (Q18.ms B i).flatMap mC2) (by have := HBn.out.o2; dsimp only at this; rwa [HL.out] at this) HBn.out.bel.size HSn.out (show i + 1 ≤ 1000000 by omega) ?_
      intro s' k' n' u4 hn h1 hkk
      have HRw : Hid (RowT 29 u4 q (mCs { Mx.nil0 with messages := Q18.ms B i } ⟨none, 0, sa, ca, none, 0⟩)) := HBn.out.row2 hkk
      have x8 := HRw.out.c 9 _ rfl
      have f8 := HRw.out.f 9
      have HY : Hid (Mb W (u4.setCell ⟨q, 9, none⟩ (.slice s' n' k')) q { Mx.nil0 with messages := Q18.ms B (i + 1) } ⟨none, 0, s', k', none, 0⟩) := HBn.out.app2 (xs := Q18.ms B (i + 1)) hkk (by rw [HMs.out, List.flatMap_append]; simpa [mC2] using h1) (by rw [Q18.ms_len]; exact hn)
      subst hn
      clear h1 hkk
      refine hK'.out _ _ ?_
      clear hK' K'
      refine Hm.takeY (i := 13) (d := 45) (v := ?_) rfl (by kernel_rfl) (by kernel_rfl) (by kernel_rfl) (fun _ _ _ h => h) (by rfl) ?_ ?_
      rotate_left
      · intro w; go_simp; (try with_reducible rfl)
      simp only [Act.put, List.setIfInBounds_toArray]
      refine Hm.consF (i := 14) rfl (by kernel_rfl) (by rfl) (fun K' hK' => ?_)
      go_simp
      refine hK'.out _ _ ?_
      clear hK' K'
      refine Hm.done (by kernel_rfl) ?_ _
      generalize u4.setCell ⟨q, 9, none⟩ (.slice s' (i + 1) k') = v4 at HY ⊢
      clear x8 f8 HM HMd HBn HRw HSn HEon
      go_wp2_with fail
      go_roundw
      case rel => exact ⟨i + 1, s', k', by omega, rfl, HY⟩
      case measure => simp only [intOf]; omega
    · obtain rfl : i = len0 := by omega
      have ii : ¬ ((i : Int) < (i : Int)) := by omega
      obtain ⟨V, rfl⟩ : ∃ V : World, V = wr := ⟨wr, rfl⟩
      have HV : Hid (Below W.heap.size W V) := HM.out.bel
      have HQ : Hid (∀ w, Below V.heap.size V w → Q w) := fun w hb => HQn.out _ w (HWq.out V HV.out) hb
      have HMe : Hid (MIn V { Mx.nil0 with messages := Q18.ms B i } ⟨none, 0, sa, ca, none, 0⟩) := HM.out.mem
      have hlen : (Q18.ms B i).length = i := Q18.ms_len B i
      have hi12 : i ≤ 12 := HN.out
      obtain ⟨y0, y1, y2, y3, y4, y5, y6, y7, y8, y9, y10⟩ := HM.out.row.mat
      dsimp only [Mx.nil0] at y0 y1 y2 y3 y4 y5 y6 y7 y8 y9 y10
      have HNw : Hid (∀ w1, Below V.heap.size V w1 → Ob.MakesV Try.prog At 8 #[.agg #[.int .i64 0, .int .i64 0, .int .i64 0, .int .i64 0, .int .i64 0, .int .i64 0, .int .i64 0, .int .u32 ((0 : Nat) : Int), .slice none ([] : List Int).length 0, .slice sa (Q18.ms B i).length ca, .slice none ([] : List Mx.Win).length 0], .int .i64 (u : Int)] w1 (Q18.mk (Q18.ms B i) (u : Int))) := fun w1 hb => S.new V w1 _ ⟨none, 0, sa, ca, none, 0⟩ (u : Int) (HQ.out w1 hb) hb HMe.out ⟨Nat.zero_le _, by show (Q18.ms B i).length ≤ 1000; omega, Nat.zero_le _⟩ HU.out.1
      clear hi hlen hi12
      have HJ0 : Hid (Q18.Jo (Q18.mk (Q18.ms B i) (u : Int)) B i u 0) := Q18.jo0 B i u
      have HN12 : Hid (i ≤ 12) := HN.out
      have HEb : Hid (∀ k, k < i → ∃ b off, s0 = some ⟨b, off, none⟩ ∧ (∀ w', Below V.heap.size V w' → w'.cell? ⟨b, off + k, none⟩ = some (.int .u8 (B k : Int))) ∧ B k < 256) := fun k hk => by
        obtain ⟨b, off, h1, h2, h3⟩ := HEl.out k hk
        exact ⟨b, off, h1, fun w' hb => h2 w' (HV.out.trans (hb.mono HV.out.size)), h3⟩
      clear HEl HM HN HMe HWq HQn
      go_wp2_with fail
      refine (Oq.O1.makeV (HNw.out _ (Below.refl _ _))).mono ?_
      clear HNw
      rintro e w2 ⟨V, p, rfl, hV1, hq⟩
      replace HV : Hid (Below W.heap.size W V) := HV.out.trans (hV1.mono HV.out.size)
      replace HQ : Hid (∀ w, Below V.heap.size V w → Q w) := fun w hb => HQ.out w (hV1.trans (hb.mono hV1.size))
      replace HEb : Hid (∀ k, k < i → ∃ b off, s0 = some ⟨b, off, none⟩ ∧ (∀ w', Below V.heap.size V w' → w'.cell? ⟨b, off + k, none⟩ = some (.int .u8 (B k : Int))) ∧ B k < 256) := fun k hk => by
        obtain ⟨b, off, h1, h2, h3⟩ := HEb.out k hk
        exact ⟨b, off, h1, fun w' hb => h2 w' (hV1.trans (hb.mono hV1.size)), h3⟩
      clear hV1
      have HOs : Hid (∃ s, Q18.Jo s B i u 0 ∧ Oq.O1 (At V) V w2 p s []) := ⟨_, HJ0.out, hq⟩
      clear hq HJ0 y0 y1 y2 y3 y4 y5 y6 y7 y8 y9 y10
      go_wp2_with fail
      go_loopw [10, 11, 12, 13, 14] (fun vj _v11 _v12 _v13 _v14 wr => ∃ j : Nat, j ≤ i ∧ vj = .int .i64 (j : Int) ∧ Hid (∃ s, Q18.Jo s B i u j ∧ Oq.O1 (At V) V wr p s [])) (fun vj _ _ _ _ _ => i - (intOf vj).toNat)
      case atStart => exact ⟨0, Nat.zero_le _, rfl, HOs⟩
      case round =>
        clear HOs
        obtain ⟨j, hj, rfl, HOs⟩ := hrel
        by_cases hji : j < i
        · obtain ⟨b, off, rfl, hc, hB⟩ := HEb.out j hji
          have ij : (j : Int) < (i : Int) := by omega
          have jb : (j : Int) < 1000 := by have := HN12.out; omega
          have HJw : Hid ((Lit.int .i64 (j : Int)).wf = true ∧ j < i) := ⟨wf18 (by omega), hji⟩
          obtain ⟨s, hJ, ho⟩ := HOs.out
          have HJ : Hid (Q18.Jo s B i u j) := hJ
          have HO : Hid (Oq.O1 (At V) V wr p s []) := ho
          have HCe : Hid (∀ w', Below V.heap.size V w' → w'.cell? ⟨b, off + j, none⟩ = some (.int .u8 (B j : Int))) := hc
          clear hc ho hJ HOs
          obtain ⟨x, hx⟩ : ∃ x, B j % 4 = x := ⟨_, rfl⟩
          have HX : Hid (B j % 4 = x) := hx
          have tx : (B j : Int).tmod 4 = (x : Int) := by rw [Int.tmod_eq_emod_of_nonneg (by omega)]; omega
          have ex : (B j : Int) % 4 = (x : Int) := by omega
          have xI : (x : Int) < 4 := by omega
          clear hx
          by_cases hxu : x = u
          · have hM := HJ.out.mine HJw.out.2 HD8.out (HX.out.trans hxu)
            have H1 : Hid (Q18.sendE s (j : Int) D = 0 ∧ Q18.Jo (Q18.sendS s (j : Int) D) B i u (j + 1) ∧ Q18.get (Q18.sendS s (j : Int) D).own (j : Int) = some D) := hM
            have xub : ((x : Int) == (u : Int)) = true := by rw [hxu]; simp
            clear hM HJ HX hxu
            generalize (B j : Int) = y at *
            go_wp2_with fail
            refine (HO.out.turn (fun F hF => S.send V _ p F _ (j : Int) D (HQ.out _ HO.out.bel) HO.out.bel HJw.out.1 hF)).mono ?_
            rintro e w3 ⟨rfl, hq⟩
            rw [H1.out.1]
            replace HO : Hid (Oq.O1 (At V) V w3 p (Q18.sendS s (j : Int) D) []) := hq
            clear hq
            generalize Q18.sendS s (j : Int) D = s1 at HO H1
            go_wp2_with fail
            refine (HO.out.turn (fun F hF => S.state V _ p F _ (j : Int) (HQ.out _ HO.out.bel) HO.out.bel HJw.out.1 hF)).mono ?_
            rintro e w4 ⟨rfl, hq⟩
            rw [H1.out.2.2]
            have HD : Hid (∃ s, Q18.Jo s B i u (j + 1) ∧ Oq.O1 (At V) V w4 p s []) := ⟨s1, H1.out.2.1, hq⟩
            have c0 := HCe.out w4 hq.bel
            clear hq HO H1 HCe
            go_wp2_with fail
            go_roundw
            case rel => exact ⟨j + 1, by omega, rfl, HD⟩
            case measure => simp only [intOf]; omega
          · have hM := HJ.out.other HJw.out.2 D (fun e => hxu (HX.out.symm.trans e))
            have H1 : Hid (Q18.sendE s (j : Int) D = 145 ∧ Q18.sendS s (j : Int) D = s ∧ Q18.Jo s B i u (j + 1) ∧ Q18.get s.own (j : Int) = none) := hM
            have xub : ((x : Int) == (u : Int)) = false := beq_eq_false_iff_ne.2 (by omega)
            clear hM HJ HX hxu
            generalize (B j : Int) = y at *
            go_wp2_with fail
            refine (HO.out.turn (fun F hF => S.send V _ p F _ (j : Int) D (HQ.out _ HO.out.bel) HO.out.bel HJw.out.1 hF)).mono ?_
            rintro e w3 ⟨rfl, hq⟩
            rw [H1.out.1]
            rw [H1.out.2.1] at hq
            replace HO : Hid (Oq.O1 (At V) V w3 p s []) := hq
            clear hq
            go_wp2_with fail
            refine (HO.out.turn (fun F hF => S.state V _ p F _ (j : Int) (HQ.out _ HO.out.bel) HO.out.bel HJw.out.1 hF)).mono ?_
            rintro e w4 ⟨rfl, hq⟩
            rw [H1.out.2.2.2]
            have HD : Hid (∃ s, Q18.Jo s B i u (j + 1) ∧ Oq.O1 (At V) V w4 p s []) := ⟨s, H1.out.2.2.1, hq⟩
            have c0 := HCe.out w4 hq.bel
            clear hq HO H1 HCe
            go_wp2_with fail
            go_roundw
            case rel => exact ⟨j + 1, by omega, rfl, HD⟩
            case measure => simp only [intOf]; omega
        · obtain rfl : j = i := by omega
          have ij : ¬ ((j : Int) < (j : Int)) := by omega
          obtain ⟨s, hJ, ho⟩ := HOs.out
          have HO : Hid (Oq.O1 (At V) V wr p s []) := ho
          have H1 : Hid (Q18.sendE s (j : Int) D = 145 ∧ Q18.sendS s (j : Int) D = s) := hJ.none_ (j : Int) (by omega) D
          have H2 : Hid (Q18.sendE s (-1) D = 145 ∧ Q18.sendS s (-1) D = s) := hJ.none_ (-1) (by omega) D
          have H3 : Hid (s.q.l.length = 0) := by show _ = _; rw [hJ.q]; rfl
          have HJw : Hid ((Lit.int .i64 (j : Int)).wf = true) := wf18 (by have := HN12.out; omega)
          clear hJ ho HOs HEb
          go_wp2_with fail
          refine (HO.out.turn (fun F hF => S.send V _ p F _ (j : Int) D (HQ.out _ HO.out.bel) HO.out.bel HJw.out hF)).mono ?_
          rintro e w3 ⟨rfl, hq⟩
          rw [H1.out.1]
          rw [H1.out.2] at hq
          replace HO : Hid (Oq.O1 (At V) V w3 p s []) := hq
          clear hq
          go_wp2_with fail
          refine (HO.out.turn (fun F hF => S.send V _ p F _ (-1) D (HQ.out _ HO.out.bel) HO.out.bel (by decide) hF)).mono ?_
          rintro e w4 ⟨rfl, hq⟩
          rw [H2.out.1]
          rw [H2.out.2] at hq
          replace HO : Hid (Oq.O1 (At V) V w4 p s []) := hq
          clear hq
          go_wp2_with fail
          refine (HO.out.turn (fun F hF => S.waiting V _ p F _ (HQ.out _ HO.out.bel) HO.out.bel hF)).mono ?_
          rintro e w5 ⟨rfl, hq⟩
          rw [H3.out]
          have HBz : Hid (Below W.heap.size W w5) := HV.out.trans (hq.bel.mono HV.out.size)
          clear hq HO H1 H2 H3
          go_wp2
          go_ret
          exact ⟨rfl, HBz.out⟩
end Go.Proofs.Ytkgeknkppnadfaa.objectOwners
