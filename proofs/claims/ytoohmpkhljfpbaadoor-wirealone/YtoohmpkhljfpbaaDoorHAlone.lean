/- WireAlone: one node alone is off some time, and the wire is quiet from then on, for every frame of at most 8 bytes that is one (others are let by); no condition. -/
import Derived.Test.YtoohmpkhljfpbaaDoorH4
import Derived.Test.YtoohmpkhljfpbaaDoorUi
import Derived.Test.YtoohmpkhljfpbaaDoorU8
import Derived.Test.YtoohmpkhljfpbaaDoorU2
import Derived.ProofKit
import Derived.OpenShut
namespace Go.Proofs.YtoohmpkhljfpbaaDoor.wireAlone
open Go.ChangeShapes Go.WideShapes Go.ChangeAt Go.RowKit
set_option linter.unusedVariables false
variable {At : Ob.A Mm.Wi}
theorem oL_top {f : Cm.Fr} (hf : Mm.isFr f = true) : Mm.oL f ≤ 160 := by
  have h := (Cm.enc_len (x := f.1) (n := f.2.1) (r := f.2.2.1) (d := f.2.2.2) hf).2.1
  have hd := (Fm.isF_parts (show Fm.isF f.1 f.2.1 f.2.2.1 f.2.2.2 = true from hf)).2.1
  have e : Mm.oL f = (Cm.enc0 f.1 f.2.1 f.2.2.1 f.2.2.2).length := rfl
  rw [e]
  split at h <;> omega
/-- The wire of one node. -/
def One1 (m : Mm.St) (n : Nat) (W : Mm.Wi) : Prop := W.ms = [m] ∧ W.bs.length = n
theorem one1_ask {m : Mm.St} {n : Nat} {W : Mm.Wi} (h : One1 m n W) (f : Cm.Fr) {k : Nat} {m' : Mm.St} (ha : Mm.ask m f = (k, m')) : ∃ W', Mm.wask W 0 f = (k, W') ∧ One1 m' n W' ∧ W'.bs = W.bs := by
  obtain ⟨h1, h2⟩ := h
  unfold Mm.wask
  rw [if_pos ⟨by decide, by rw [h1]; show (0 : Int) < 1; decide⟩]
  have hg : W.ms.getD (0 : Int).toNat Mm.fresh = m := by rw [h1]; rfl
  rw [hg, ha]
  refine ⟨_, rfl, ⟨?_, h2⟩, rfl⟩
  show W.ms.set (0 : Int).toNat m' = [m']
  rw [h1]; rfl
theorem one1_next {m : Mm.St} {n : Nat} {W : Mm.Wi} (h : One1 m n W) : One1 (Mm.sample m (Mm.drive m)).1 (n + 1) (Mm.wnext W false) ∧ (Mm.wnext W false).bs = W.bs ++ [Mm.drive m] := by
  obtain ⟨h1, h2⟩ := h
  have hb : Mm.wbit W.ms false = Mm.drive m := by
    unfold Mm.wbit
    rw [h1]
    show ((Mm.drive m && true) != false) = Mm.drive m
    cases Mm.drive m <;> rfl
  unfold Mm.wnext
  refine ⟨⟨?_, ?_⟩, ?_⟩
  · dsimp only
    rw [hb, h1]
    rfl
  · dsimp only
    rw [List.length_append, h2]; rfl
  · dsimp only
    rw [hb]
set_option maxRecDepth 100000 in
set_option maxHeartbeats 4000000 in
theorem early (S : WireSpec At) (f : Cm.Fr) (D : ByteArray) (hD : D = ⟨f.2.2.2.toArray⟩) (h : 8 < D.size ∨ ¬ 8 < D.size ∧ Mm.isFr f = false) (W : World) (hT : Tab W) :
    Calls Tryd.prog 7 #[.agg #[.bool f.1, .int .u32 (f.2.1 : Int), .bool f.2.2.1, .string D]] W fun e w' => e = .returned (.bool true) ∧ Below W.heap.size W w' := by
  have HT : Hid (Tab _) := hT.alloc (.cells #[.bool f.1, .int .u32 (f.2.1 : Int), .bool f.2.2.1, .string D] 26)
  have HI : Hid (∀ w, Calls Tryd.prog 9 #[.agg #[.bool f.1, .int .u32 (f.2.1 : Int), .bool f.2.2.1, .string D]] w fun e w' => e = .returned (.bool (Mm.isFr f)) ∧ Below w.heap.size w w') := fun w => by
    have h := refFIs_any f.1 f.2.1 f.2.2.1 ⟨f.2.2.2.toArray⟩ w
    rw [hD]
    exact h
  clear hT hD
  rcases h with h | ⟨h, h2⟩
  · go_enter Tryd.func7, Tryd.ntmps7
    go_wp2_with fail
    refine (known8_any S _ HT.out).mono ?_
    rintro e w1 ⟨rfl, hb⟩
    have LF : Hid (Lies w1 W.heap.size f.1 f.2.1 f.2.2.1 D) := (Lies.new W _ _ _ _).on hb
    have hA : Hid (Below W.heap.size W w1) := below_joinK ((Below.refl _ _).alloc (Nat.le_refl _) _) hb (by simp)
    have L3 := LF.out.c3
    clear hb
    go_wp2
    go_ret
    exact ⟨rfl, hA.out⟩
  · rw [h2] at HI
    go_enter Tryd.func7, Tryd.ntmps7
    go_wp2_with fail
    refine (known8_any S _ HT.out).mono ?_
    rintro e w1 ⟨rfl, hb⟩
    have LF : Hid (Lies w1 W.heap.size f.1 f.2.1 f.2.2.1 D) := (Lies.new W _ _ _ _).on hb
    have hA : Hid (Below W.heap.size W w1) := below_joinK ((Below.refl _ _).alloc (Nat.le_refl _) _) hb (by simp)
    have L0 := LF.out.c0
    have L1 := LF.out.c1
    have L2 := LF.out.c2
    have L3 := LF.out.c3
    clear hb
    go_wp2_with fail
    refine (HI.out _).mono ?_
    rintro e w2 ⟨rfl, hb⟩
    replace hA : Hid (Below W.heap.size W w2) := below_joinK hA.out hb hA.out.size
    clear hb
    go_wp2
    go_ret
    exact ⟨rfl, hA.out⟩
set_option maxRecDepth 100000 in
set_option maxHeartbeats 4000000 in
theorem main (S : WireSpec At) (f : Cm.Fr) (D : ByteArray) (hD : D = ⟨f.2.2.2.toArray⟩) (h8 : ¬ 8 < D.size) (hf : Mm.isFr f = true) (hn : f.2.1 < 4294967296) (W : World) (hT : Tab W) :
    Calls Tryd.prog 7 #[.agg #[.bool f.1, .int .u32 (f.2.1 : Int), .bool f.2.2.1, .string D]] W fun e w' => e = .returned (.bool true) ∧ Below W.heap.size W w' := by
  have HT : Hid (Tab _) := hT.alloc (.cells #[.bool f.1, .int .u32 (f.2.1 : Int), .bool f.2.2.1, .string D] 26)
  have HTW : Hid (Tab W) := hT
  have HD : Hid (D = ⟨f.2.2.2.toArray⟩) := hD
  have hdl : f.2.2.2.length ≤ 1000 := by
    have h8' := h8
    rw [hD] at h8'
    have e : (ByteArray.mk f.2.2.2.toArray).size = f.2.2.2.length := (by show f.2.2.2.toArray.size = _; simp)
    omega
  have HF : Hid (Mm.isFr f = true ∧ Mm.oL f ≤ 160 ∧ f.2.2.2.length ≤ 1000) := ⟨hf, oL_top hf, hdl⟩
  have HI : Hid (∀ w, Calls Tryd.prog 9 #[.agg #[.bool f.1, .int .u32 (f.2.1 : Int), .bool f.2.2.1, .string D]] w fun e w' => e = .returned (.bool true) ∧ Below w.heap.size w w') := fun w => by
    have h := refFIs_any f.1 f.2.1 f.2.2.1 ⟨f.2.2.2.toArray⟩ w
    rw [hD]
    rw [show Fm.isF f.1 f.2.1 f.2.2.1 (ByteArray.mk f.2.2.2.toArray).data.toList = true from hf] at h
    exact h
  have HA : Hid (∀ (P : Nat → Prop) (w : World) (p : Nat) (V : Mm.Wi) (k : Nat) (V' : Mm.Wi), Mm.wask V 0 f = (k, V') → OwnW At P w p V → Ctx W P w → Calls Tryd.prog 15 #[bptr p, .int .i64 0, .agg #[.bool f.1, .int .u32 (f.2.1 : Int), .bool f.2.2.1, .string D]] w fun e w' => e = .returned (.int .i64 (k : Int)) ∧ OwnW At P w' p V' ∧ Ctx W P w' ∧ Kept P w w') := fun P w p V k V' h1 h2 h3 => by
    rw [hD]
    exact ow_ask S 0 f h1 (by decide) hn hdl h2 h3
  clear hT hD hf hdl hn
  go_enter Tryd.func7, Tryd.ntmps7
  go_wp2_with fail
  refine (known8_any S _ HT.out).mono ?_
  rintro e w1 ⟨rfl, hb1⟩
  have LF : Hid (Lies w1 W.heap.size f.1 f.2.1 f.2.2.1 D) := (Lies.new W _ _ _ _).on hb1
  have hA : Hid (Below W.heap.size W w1) := below_joinK ((Below.refl _ _).alloc (Nat.le_refl _) _) hb1 (by simp)
  have L0 := LF.out.c0
  have L1 := LF.out.c1
  have L2 := LF.out.c2
  have L3 := LF.out.c3
  clear hb1
  go_wp2_with fail
  refine (HI.out _).mono ?_
  rintro e w2 ⟨rfl, hb1⟩
  replace hA : Hid (Below W.heap.size W w2) := below_joinK hA.out hb1 hA.out.size
  replace LF : Hid (Lies w2 W.heap.size f.1 f.2.1 f.2.2.1 D) := LF.out.on hb1
  have hC : Hid (Ctx W (fun g => w2.heap.size ≤ g) w2) := Ctx.from HTW.out hA.out
  have LFP : Hid (¬ (fun g => w2.heap.size ≤ g) W.heap.size) := (by show ¬ _; have := LF.out.lt; omega)
  clear hb1 L0 L1 L2 L3 hA
  go_wp2_with fail
  refine (ow_new S 1 (by decide) hC.out).mono ?_
  rintro e w3 ⟨p, qs, qb, rfl, O', C', hk'⟩
  replace hC : Hid (Ctx W _ w3) := C'
  have OB : Hid (OwnW At _ w3 p (Mm.wnew 1 qs qb)) := O'
  replace LF : Hid (Lies w3 _ _ _ _ _) := LF.out.kept hk' LFP.out
  have H1 : Hid (One1 Mm.fresh 0 (Mm.wnew 1 qs qb)) := ⟨rfl, rfl⟩
  have HB : Hid (Mm.Bst f 0 Mm.fresh) := Or.inl ⟨rfl, rfl⟩
  clear O' C' hk' HI HT HTW
  go_wp2_with fail
  go_loopw [4] (fun i wr => ∃ (k : Nat) (V : Mm.Wi) (m : Mm.St), i = .int .i64 k ∧ Hid (One1 m k V) ∧ Hid (Mm.Bst f k m) ∧ Hid (OwnW At (fun g => w2.heap.size ≤ g) wr p V) ∧ Hid (Ctx W (fun g => w2.heap.size ≤ g) wr) ∧ Hid (Lies wr W.heap.size f.1 f.2.1 f.2.2.1 D)) (fun i _ => 9000 - (intOf i).toNat)
  case atStart => exact ⟨0, _, _, rfl, H1, HB, OB, hC, LF⟩
  case round =>
    clear OB hC LF H1 HB
    obtain ⟨k, V, m, rfl, H1, HB, OB, hC, LF⟩ := hrel
    have hk : k ≤ 8000 := Mm.bst_top HF.out.1 HF.out.2.1 HB.out
    have L0 := LF.out.c0
    have L1 := LF.out.c1
    have L2 := LF.out.c2
    have L3 := LF.out.c3
    rcases Mm.bst_ask HF.out.1 HB.out with hoff | ⟨ak, m', ha, hne, hle, hA2⟩
    · subst hoff
      obtain ⟨V2, b1, b2, b3⟩ := one1_ask H1.out f (Mm.off_ask f f)
      have H2 : Hid (One1 (Mm.offS f) k V2) := b2
      go_wp2_with fail
      refine (HA.out _ _ _ _ _ _ b1 OB.out hC.out).mono ?_
      rintro e w' ⟨rfl, O', C', hk'⟩
      replace hC : Hid (Ctx W _ w') := C'
      replace OB : Hid (OwnW At _ w' _ V2) := O'
      replace LF : Hid (Lies w' _ _ _ _ _) := LF.out.kept hk' LFP.out
      clear O' C' hk' L0 L1 L2 L3 b1 b2 b3 H1 HB
      go_wp2_with fail
      go_loopw [7] (fun j wr => ∃ (q : Nat) (U : Mm.Wi), q ≤ 200 ∧ j = .int .i64 q ∧ Hid (One1 (Mm.offS f) (k + q) U) ∧ Hid (U.bs = V2.bs ++ List.replicate q true) ∧ Hid (OwnW At (fun g => w2.heap.size ≤ g) wr p U) ∧ Hid (Ctx W (fun g => w2.heap.size ≤ g) wr) ∧ Hid (Lies wr W.heap.size f.1 f.2.1 f.2.2.1 D)) (fun j _ => 200 - (intOf j).toNat)
      case atStart => exact ⟨0, V2, by decide, rfl, H2, by show _ = _; rw [List.replicate_zero, List.append_nil], OB, hC, LF⟩
      case round =>
        clear OB hC LF
        obtain ⟨q, U, hq, rfl, H3, H4, OB, hC, LF⟩ := hrel
        by_cases hlt : q < 200
        · obtain ⟨n1, n2⟩ := one1_next H3.out
          rw [Mm.off_drive, Mm.off_step] at n1
          rw [Mm.off_drive] at n2
          have H5 : Hid (One1 (Mm.offS f) (k + q + 1) (Mm.wnext U false)) := n1
          have H6 : Hid ((Mm.wnext U false).bs = V2.bs ++ List.replicate (q + 1) true) := (by show _ = _; rw [n2, H4.out, List.replicate_succ', List.append_assoc])
          have hbl : U.bs.length ≤ 100000 := by rw [H3.out.2]; omega
          clear n1 n2 H3 H4
          go_wp2_with fail
          refine (ow_step S false hbl OB.out hC.out).mono ?_
          rintro e w' ⟨sl, cp, rfl, EV', O', C', hk'⟩
          replace hC : Hid (Ctx W _ w') := C'
          replace OB : Hid (OwnW At _ w' _ _) := O'
          have EV : Hid (EvIn w' sl cp _) := EV'
          clear EV'
          replace LF : Hid (Lies w' _ _ _ _ _) := (LF.out.kept hk' LFP.out)
          try clear LF0 LF1 LF2 LF3
          have LF0 := LF.out.c0
          have LF1 := LF.out.c1
          have LF2 := LF.out.c2
          have LF3 := LF.out.c3
          clear O' C' hk'
          clear EV LF0 LF1 LF2 LF3 hbl
          go_wp2
          go_roundw
          case rel => exact ⟨q + 1, _, by omega, rfl, H5, H6, OB, hC, LF⟩
          case measure => simp only [intOf]; omega
        · obtain rfl : q = 200 := by omega
          clear hlt hq
          have hbl : U.bs.length ≤ 100000 := by rw [H3.out.2]; omega
          have hbs : U.bs.drop (U.bs.length - 4000) = V2.bs.drop (k + 200 - 4000) ++ List.replicate 200 true := by
            rw [H3.out.2, H4.out]
            exact List.drop_append_of_le_length (by rw [H2.out.2]; omega)
          obtain ⟨Y, hY⟩ : ∃ Y, Y = V2.bs.drop (k + 200 - 4000) := ⟨_, rfl⟩
          rw [← hY] at hbs
          have hYl : Y.length ≤ 8000 := by rw [hY, List.length_drop, H2.out.2]; omega
          have hTr : Hid (∀ w9, Below wr.heap.size wr w9 → Calls Tryd.prog 21 #[bptr U.qb] w9 fun e w'' => e = .returned (.string ⟨(Bm.row (Y ++ List.replicate 200 true)).toArray⟩) ∧ Below w9.heap.size w9 w'') := fun w9 hb => by
            have h := ow_trace S hbl (OB.out.on S hb)
            rw [hbs] at h
            exact h
          have hsz : (ByteArray.mk (Bm.row (Y ++ List.replicate 200 true)).toArray).size = Y.length + 200 := by
            show (Bm.row (Y ++ List.replicate 200 true)).toArray.size = _
            simp [Bm.row]
          have HIx : Hid (∀ (i : Nat) (w9 : World), Y.length ≤ i → i < Y.length + 200 → (Instr.index 9 (.string ⟨(Bm.row (Y ++ List.replicate 200 true)).toArray⟩) (.int .i64 (i : Int))).run Tryd.prog w9 = .ok (.int .u8 49) w9) := fun i w9 h1 h2 => by
            rw [idx_row _ i (by rw [List.length_append, List.length_replicate]; omega) w9]
            have e : (Y ++ List.replicate 200 true).getD i true = true := by
              rw [List.getD_eq_getElem?_getD, List.getElem?_append_right h1, List.getElem?_replicate]
              split <;> rfl
            rw [e]
            rfl
          have HU : Hid (One1 (Mm.offS f) (k + 200) U) := H3
          clear hbs hY hbl H3 H4 H2
          generalize ByteArray.mk (Bm.row (Y ++ List.replicate 200 true)).toArray = T at *
          generalize Y.length = yl at *
          go_wp2_with fail
          refine (ow_bus S OB.out).mono ?_
          rintro e w8 ⟨rfl, hb8⟩
          have HB8 : Hid (Below wr.heap.size wr w8) := hb8
          clear hb8
          go_wp2_with fail
          refine (hTr.out _ HB8.out).mono ?_
          rintro e w9 ⟨rfl, hb8⟩
          replace HB8 : Hid (Below wr.heap.size wr w9) := below_joinK HB8.out hb8 HB8.out.size
          replace OB : Hid (OwnW At _ w9 _ U) := OB.out.on S HB8.out
          replace hC : Hid (Ctx W _ w9) := hC.out.more HB8.out
          replace LF : Hid (Lies w9 _ _ _ _ _) := LF.out.on HB8.out
          clear hb8 HB8 hTr
          go_wp2_with fail
          go_loopw [6, 9] (fun qt j wr => ∃ (q : Nat), q ≤ 200 ∧ qt = .bool true ∧ j = .int .i64 ((yl + q : Nat) : Int) ∧ Hid (OwnW At (fun g => w2.heap.size ≤ g) wr p U) ∧ Hid (Ctx W (fun g => w2.heap.size ≤ g) wr) ∧ Hid (Lies wr W.heap.size f.1 f.2.1 f.2.2.1 D)) (fun _ j _ => yl + 200 - (intOf j).toNat)
          case atStart => exact ⟨0, by decide, rfl, by congr 1, OB, hC, LF⟩
          case round =>
            clear OB hC LF
            obtain ⟨q, hq, rfl, rfl, OB, hC, LF⟩ := hrel
            by_cases hlt : q < 200
            · obtain ⟨ix, hix⟩ : ∃ ix, ix = yl + q := ⟨_, rfl⟩
              have hx := fun w9 => HIx.out ix w9 (by omega) (by omega)
              have hlx : ix < yl + 200 := by omega
              have HX : Hid (ix = yl + q) := hix
              rw [← hix]
              clear hix
              go_wp2
              go_roundw
              case rel => exact ⟨q + 1, by omega, rfl, by rw [HX.out]; congr 1, OB, hC, LF⟩
              case measure => simp only [intOf]; omega
            · obtain rfl : q = 200 := by omega
              obtain ⟨V3, b1, b2, b3⟩ := one1_ask HU.out f (Mm.off_ask f f)
              clear hlt hq
              have L0 := LF.out.c0
              have L1 := LF.out.c1
              have L2 := LF.out.c2
              have L3 := LF.out.c3
              go_wp2_with fail
              refine (HA.out _ _ _ _ _ _ b1 OB.out hC.out).mono ?_
              rintro e w' ⟨rfl, O', C', hk'⟩
              replace hC : Hid (Ctx W _ w') := C'
              clear O' C' hk' L0 L1 L2 L3 OB LF b1 b2 b3
              go_wp2
              go_ret
              exact ⟨rfl, hC.out.below⟩
    · obtain ⟨V2, b1, b2, b3⟩ := one1_ask H1.out f ha
      have hk9 : k < 9000 := by omega
      have hne2 : ((ak : Int) == 73) = false := by simp; omega
      obtain ⟨n1, n2⟩ := one1_next b2
      have H5 : Hid (One1 (Mm.sample m' (Mm.drive m')).1 (k + 1) (Mm.wnext V2 false)) := n1
      have H6 : Hid (Mm.Bst f (k + 1) (Mm.sample m' (Mm.drive m')).1) := Mm.ast_step HF.out.1 HF.out.2.1 hA2
      have hbl : V2.bs.length ≤ 100000 := by rw [b2.2]; omega
      have HBL : Hid (V2.bs.length ≤ 100000) := hbl
      clear n1 n2 hA2 ha hne H1 HB b2 b3 hbl
      go_wp2_with fail
      refine (HA.out _ _ _ _ _ _ b1 OB.out hC.out).mono ?_
      rintro e w' ⟨rfl, O', C', hk'⟩
      replace hC : Hid (Ctx W _ w') := C'
      replace OB : Hid (OwnW At _ w' _ V2) := O'
      replace LF : Hid (Lies w' _ _ _ _ _) := LF.out.kept hk' LFP.out
      clear O' C' hk' L0 L1 L2 L3 b1
      go_wp2_with fail
      refine (ow_step S false HBL.out OB.out hC.out).mono ?_
      rintro e w' ⟨sl, cp, rfl, EV', O', C', hk'⟩
      replace hC : Hid (Ctx W _ w') := C'
      replace OB : Hid (OwnW At _ w' _ _) := O'
      have EV : Hid (EvIn w' sl cp _) := EV'
      clear EV'
      replace LF : Hid (Lies w' _ _ _ _ _) := (LF.out.kept hk' LFP.out)
      try clear LF0 LF1 LF2 LF3
      have LF0 := LF.out.c0
      have LF1 := LF.out.c1
      have LF2 := LF.out.c2
      have LF3 := LF.out.c3
      clear O' C' hk'
      clear EV LF0 LF1 LF2 LF3
      go_wp2
      go_roundw
      case rel => exact ⟨k + 1, _, _, rfl, H5, H6, OB, hC, LF⟩
      case measure => simp only [intOf]; omega
theorem walkA (S : WireSpec At) (x : Bool) (n0 : Int) (r : Bool) (d : ByteArray) (w2 : (Lit.int .u32 n0).wf = true) (W : World) (hT : Tab W) :
    Calls Tryd.prog 7 #[.agg #[.bool x, .int .u32 n0, .bool r, .string d]] W fun e w' => e = .returned (.bool true) ∧ Below W.heap.size W w' := by
  obtain ⟨n, rfl, hn⟩ := u32_nat w2
  have hd : d = ⟨((x, n, r, d.data.toList) : Cm.Fr).2.2.2.toArray⟩ := rfl
  by_cases h8 : 8 < d.size
  · exact early S (x, n, r, d.data.toList) d hd (Or.inl h8) W hT
  · cases hf : Mm.isFr (x, n, r, d.data.toList)
    · exact early S (x, n, r, d.data.toList) d hd (Or.inr ⟨h8, hf⟩) W hT
    · exact main S (x, n, r, d.data.toList) d hd h8 hf hn W hT
end Go.Proofs.YtoohmpkhljfpbaaDoor.wireAlone
