/- WireAll: a frame of one comes to all others at the same bit, and none hears its own, for every frame of at most 8 bytes that is one (others are let by), two to eight nodes; no condition. -/
import Derived.Test.YtoohmpkhljfpbaaDoorH4
import Derived.Test.YtoohmpkhljfpbaaDoorUi
import Derived.Test.YtoohmpkhljfpbaaDoorU8
import Derived.ProofKit
import Derived.OpenShut
namespace Go.Proofs.YtoohmpkhljfpbaaDoor.wireAll
open Go.ChangeShapes Go.WideShapes Go.ChangeAt Go.RowKit
set_option linter.unusedVariables false
variable {At : Ob.A Mm.Wi}
theorem oL_top {f : Cm.Fr} (hf : Mm.isFr f = true) : Mm.oL f ≤ 160 := by
  have h := (Cm.enc_len (x := f.1) (n := f.2.1) (r := f.2.2.1) (d := f.2.2.2) hf).2.1
  have hd := (Fm.isF_parts (show Fm.isF f.1 f.2.1 f.2.2.1 f.2.2.2 = true from hf)).2.1
  have e : Mm.oL f = (Cm.enc0 f.1 f.2.1 f.2.2.1 f.2.2.2).length := rfl
  rw [e]
  split at h <;> omega
set_option maxRecDepth 100000 in
set_option maxHeartbeats 4000000 in
theorem early (S : WireSpec At) (a b : Int) (f : Cm.Fr) (D : ByteArray) (hD : D = ⟨f.2.2.2.toArray⟩) (h : 8 < D.size ∨ ¬ 8 < D.size ∧ Mm.isFr f = false) (W : World) (hT : Tab W) :
    Calls Tryd.prog 5 #[.int .u8 a, .int .u8 b, .agg #[.bool f.1, .int .u32 (f.2.1 : Int), .bool f.2.2.1, .string D]] W fun e w' => e = .returned (.bool true) ∧ Below W.heap.size W w' := by
  have HT : Hid (Tab _) := hT.alloc (.cells #[.bool f.1, .int .u32 (f.2.1 : Int), .bool f.2.2.1, .string D] 26)
  have HI : Hid (∀ w, Calls Tryd.prog 9 #[.agg #[.bool f.1, .int .u32 (f.2.1 : Int), .bool f.2.2.1, .string D]] w fun e w' => e = .returned (.bool (Mm.isFr f)) ∧ Below w.heap.size w w') := fun w => by
    have h := refFIs_any f.1 f.2.1 f.2.2.1 ⟨f.2.2.2.toArray⟩ w
    rw [hD]
    exact h
  clear hT hD
  rcases h with h | ⟨h, h2⟩
  · go_enter Tryd.func5, Tryd.ntmps5
    go_wp2_with fail
    refine (known8_any S _ HT.out).mono ?_
    rintro e w1 ⟨rfl, hb⟩
    have LF : Hid (Lies w1 W.heap.size f.1 f.2.1 f.2.2.1 D) := (Lies.new W _ _ _ _).on hb
    have hA : Hid (Below W.heap.size W w1) := below_joinK ((Below.refl _ _).alloc (Nat.le_refl _) _) hb (by simp)
    have L3 := LF.out.c3
    clear hb
    go_wp2
    go_ret
    exact ⟨rfl, hA.out⟩
  · rw [h2] at HI
    go_enter Tryd.func5, Tryd.ntmps5
    go_wp2_with fail
    refine (known8_any S _ HT.out).mono ?_
    rintro e w1 ⟨rfl, hb⟩
    have LF : Hid (Lies w1 W.heap.size f.1 f.2.1 f.2.2.1 D) := (Lies.new W _ _ _ _).on hb
    have hA : Hid (Below W.heap.size W w1) := below_joinK ((Below.refl _ _).alloc (Nat.le_refl _) _) hb (by simp)
    have L0 := LF.out.c0
    have L1 := LF.out.c1
    have L2 := LF.out.c2
    have L3 := LF.out.c3
    clear hb
    go_wp2_with fail
    refine (HI.out _).mono ?_
    rintro e w2 ⟨rfl, hb⟩
    replace hA : Hid (Below W.heap.size W w2) := below_joinK hA.out hb hA.out.size
    clear hb
    go_wp2
    go_ret
    exact ⟨rfl, hA.out⟩
set_option maxRecDepth 100000 in
set_option maxHeartbeats 4000000 in
theorem main (S : WireSpec At) (a b : Nat) (ha : a < 256) (hb : b < 256) (f : Cm.Fr) (D : ByteArray) (hD : D = ⟨f.2.2.2.toArray⟩) (h8 : ¬ 8 < D.size) (hf : Mm.isFr f = true) (hn : f.2.1 < 4294967296) (W : World) (hT : Tab W) :
    Calls Tryd.prog 5 #[.int .u8 (a : Int), .int .u8 (b : Int), .agg #[.bool f.1, .int .u32 (f.2.1 : Int), .bool f.2.2.1, .string D]] W fun e w' => e = .returned (.bool true) ∧ Below W.heap.size W w' := by
  have HT : Hid (Tab _) := hT.alloc (.cells #[.bool f.1, .int .u32 (f.2.1 : Int), .bool f.2.2.1, .string D] 26)
  have HTW : Hid (Tab W) := hT
  have HD : Hid (D = ⟨f.2.2.2.toArray⟩) := hD
  have HI : Hid (∀ w, Calls Tryd.prog 9 #[.agg #[.bool f.1, .int .u32 (f.2.1 : Int), .bool f.2.2.1, .string D]] w fun e w' => e = .returned (.bool true) ∧ Below w.heap.size w w') := fun w => by
    have h := refFIs_any f.1 f.2.1 f.2.2.1 ⟨f.2.2.2.toArray⟩ w
    rw [hD]
    rw [show Fm.isF f.1 f.2.1 f.2.2.1 (ByteArray.mk f.2.2.2.toArray).data.toList = true from hf] at h
    exact h
  clear hT hD
  obtain ⟨K, hK⟩ : ∃ K, K = a % 7 + 2 := ⟨_, rfl⟩
  obtain ⟨s, hs⟩ : ∃ s, s = b % K := ⟨_, rfl⟩
  have hK2 : 2 ≤ K ∧ K ≤ 8 := by omega
  have hsK : s < K := by rw [hs]; exact Nat.mod_lt _ (by omega)
  have eK : ((a : Int) % 7 + 2) = (K : Int) := by omega
  have es : ((b : Int) % (K : Int)) = (s : Int) := by rw [hs]; simp
  have EK : Hid (((a : Int) % 7 + 2) = (K : Int)) := eK
  clear hK hs
  go_enter Tryd.func5, Tryd.ntmps5
  go_wp2_with fail
  refine (known8_any S _ HT.out).mono ?_
  rintro e w1 ⟨rfl, hb1⟩
  have LF : Hid (Lies w1 W.heap.size f.1 f.2.1 f.2.2.1 D) := (Lies.new W _ _ _ _).on hb1
  have hA : Hid (Below W.heap.size W w1) := below_joinK ((Below.refl _ _).alloc (Nat.le_refl _) _) hb1 (by simp)
  have L0 := LF.out.c0
  have L1 := LF.out.c1
  have L2 := LF.out.c2
  have L3 := LF.out.c3
  clear hb1
  go_wp2_with fail
  refine (HI.out _).mono ?_
  rintro e w2 ⟨rfl, hb1⟩
  replace hA : Hid (Below W.heap.size W w2) := below_joinK hA.out hb1 hA.out.size
  replace LF : Hid (Lies w2 W.heap.size f.1 f.2.1 f.2.2.1 D) := LF.out.on hb1
  have hC : Hid (Ctx W (fun g => w2.heap.size ≤ g) w2) := Ctx.from HTW.out hA.out
  have LFP : Hid (¬ (fun g => w2.heap.size ≤ g) W.heap.size) := (by show ¬ _; have := LF.out.lt; omega)
  clear hb1 L0 L1 L2 L3
  have L0 := LF.out.c0
  have L1 := LF.out.c1
  have L2 := LF.out.c2
  have L3 := LF.out.c3
  go_wp2_with fail
  have eh : Mm.heldN (K : Int) = K := by unfold Mm.heldN; omega
  have wK : (Lit.int .i64 (K : Int)).wf = true := by
    have hk : IntKind.i64.min = -9223372036854775808 ∧ IntKind.i64.max = 9223372036854775807 := ⟨rfl, rfl⟩
    simp only [Lit.wf, hk.1, hk.2, Bool.and_eq_true, decide_eq_true_eq]; omega
  have ws : (Lit.int .i64 (s : Int)).wf = true := by
    have hk : IntKind.i64.min = -9223372036854775808 ∧ IntKind.i64.max = 9223372036854775807 := ⟨rfl, rfl⟩
    simp only [Lit.wf, hk.1, hk.2, Bool.and_eq_true, decide_eq_true_eq]; omega
  refine (ow_new S (K : Int) wK hC.out).mono ?_
  rintro e w3 ⟨p, qs, qb, rfl, O', C', hk'⟩
  rw [eh] at O'
  replace hC : Hid (Ctx W _ w3) := C'
  have OB : Hid (OwnW At _ w3 p (Mm.wnew K qs qb)) := O'
  replace LF : Hid (Lies w3 _ _ _ _ _) := LF.out.kept hk' LFP.out
  obtain ⟨W1, a1, h1, q1, q2⟩ := Mm.one_start hf K s hsK qs qb
  have H1 : Hid (Mm.One f K s 0 W1) := h1
  have A1 : Hid (Mm.wask (Mm.wnew K qs qb) (s : Int) f = (0, W1)) := a1
  have WS : Hid ((Lit.int .i64 (s : Int)).wf = true) := ws
  clear O' C' hk' L0 L1 L2 L3 wK ws eh h1 a1 q1 q2 HI HT HTW
  have L0 := LF.out.c0
  have L1 := LF.out.c1
  have L2 := LF.out.c2
  have L3 := LF.out.c3
  go_wp2_with fail
  rw [HD.out]
  refine (ow_ask S (s : Int) f A1.out WS.out hn (by have := HD.out; have h8' := h8; rw [this] at h8'; have e : (ByteArray.mk f.2.2.2.toArray).size = f.2.2.2.length := (by show f.2.2.2.toArray.size = _; simp); omega) OB.out hC.out).mono ?_
  rintro e w' ⟨rfl, O', C', hk'⟩
  rw [← HD.out]
  replace hC : Hid (Ctx W _ w') := C'
  replace OB : Hid (OwnW At _ w' _ W1) := O'
  replace LF : Hid (Lies w' _ _ _ _ _) := LF.out.kept hk' LFP.out
  clear O' C' hk' L0 L1 L2 L3 A1
  go_wp2_with fail
  have hL : 44 ≤ Mm.oL f ∧ Mm.oL f ≤ 200 := Mm.out_len hf
  have HF : Hid (Mm.isFr f = true) := hf
  have HLen : Hid (44 ≤ Mm.oL f ∧ Mm.oL f ≤ 160) := ⟨hL.1, oL_top hf⟩
  clear hL hf
  go_loopw [10, 11] (fun gt i wr => ∃ (k : Nat) (V : Mm.Wi), k ≤ 200 ∧ i = .int .i64 k ∧ gt = .int .i64 ((Mm.gotA f K k : Nat) : Int) ∧ Hid (Mm.One f K s k V) ∧ Hid (OwnW At (fun g => w2.heap.size ≤ g) wr p V) ∧ Hid (Ctx W (fun g => w2.heap.size ≤ g) wr) ∧ Hid (Lies wr W.heap.size f.1 f.2.1 f.2.2.1 D)) (fun _ i _ => 200 - (intOf i).toNat)
  case atStart => exact ⟨0, W1, by decide, rfl, by unfold Mm.gotA; rw [if_neg (by omega)]; rfl, H1, OB, hC, LF⟩
  case round =>
    clear OB hC LF H1
    obtain ⟨k, V, hk, rfl, rfl, H1, OB, hC, LF⟩ := hrel
    by_cases hlt : k < 200
    · have hst := Mm.one_step HF.out hsK hK2.1 H1.out
      have HS : Hid (Mm.One f K s (k + 1) (Mm.wnext V false)) := hst.2.1
      have het := hst.2.2
      have hbl : V.bs.length ≤ 100000 := by rw [H1.out.2.2]; omega
      have hgs := Mm.got_step f K s k hsK HLen.out.1
      have hkd := Mm.told_kind f K s k hsK HLen.out.1
      have hln := Mm.told_len f K s k hsK HLen.out.1
      rw [← het] at hgs hkd hln
      clear hst het H1
      go_wp2_with fail
      refine (ow_step S false hbl OB.out hC.out).mono ?_
      rintro e w' ⟨sl, cp, rfl, EV', O', C', hk'⟩
      replace hC : Hid (Ctx W _ w') := C'
      replace OB : Hid (OwnW At _ w' _ _) := O'
      replace LF : Hid (Lies w' _ _ _ _ _) := LF.out.kept hk' LFP.out
      have EV : Hid (EvIn w' sl cp _) := EV'
      clear O' C' hk' EV' hbl
      generalize Mm.wtold V false = E at *
      generalize Mm.wnext V false = V2 at *
      generalize hG0 : Mm.gotA f K k = G0 at *
      generalize hG1 : Mm.gotA f K (k + 1) = G1 at *
      have HG1 : Hid (Mm.gotA f K (k + 1) = G1) := hG1
      have HGS : Hid (G0 + Mm.cnt2 E = G1 ∧ (Mm.cnt2 E = 0 ∨ Mm.cnt2 E = K - 1)) := hgs
      have HKD : Hid (∀ v ∈ E, v.k = 2 → v.f = f) := hkd
      have HLE : Hid (E.length ≤ K) := hln
      have gle : G0 ≤ 8 ∧ Mm.cnt2 E ≤ 8 := by
        have : G1 ≤ 8 := by rw [← hG1]; unfold Mm.gotA; split <;> omega
        omega
      have cap1 := EV.out.1
      have cap2 := EV.out.2.1
      have ln8 : E.length ≤ 8 := by omega
      clear hG0 hG1 hgs hkd hln
      go_wp2_with fail
      go_loopw [13, 14] (fun c j wr => ∃ q : Nat, q ≤ E.length ∧ j = .int .i64 q ∧ c = .int .i64 ((Mm.cnt2 (E.take q) : Nat) : Int) ∧ Hid (Below w'.heap.size w' wr)) (fun _ j _ => E.length - (intOf j).toNat)
      case atStart => exact ⟨0, Nat.zero_le _, rfl, rfl, Below.refl _ _⟩
      case round =>
        obtain ⟨q, hq, rfl, rfl, HB⟩ := hrel
        have hcq : Mm.cnt2 (E.take q) ≤ 8 := by
          have h1 : Mm.cnt2 (E.take q) ≤ (E.take q).length := List.countP_le_length
          have h2 : (E.take q).length ≤ E.length := by rw [List.length_take]; omega
          omega
        by_cases hql : q < E.length
        · obtain ⟨v, hv⟩ : ∃ v, E[q]? = some v := ⟨_, List.getElem?_eq_getElem hql⟩
          obtain ⟨g, o, rfl, hg, hc⟩ := (EV.out.on HB.out).at q v hv
          have hvm : v ∈ E := List.mem_of_getElem? hv
          have HSn : Hid (Mm.cnt2 (E.take (q + 1)) = Mm.cnt2 (E.take q) + if v.k = 2 then 1 else 0) := by
            show _ = _
            rw [List.take_add_one, hv]
            exact Mm.cnt2_snoc _ _
          have c0 : wr.cell? ⟨g, o + q * 6, none⟩ = some (.int .i64 (v.k : Int)) := hc 0 _ rfl
          have c1 : wr.cell? ⟨g, o + q * 6 + 1, none⟩ = some (.bool v.f.1) := hc 1 _ rfl
          have c2 : wr.cell? ⟨g, o + q * 6 + 2, none⟩ = some (.int .u32 (v.f.2.1 : Int)) := hc 2 _ rfl
          have c3 : wr.cell? ⟨g, o + q * 6 + 3, none⟩ = some (.bool v.f.2.2.1) := hc 3 _ rfl
          have c4 : wr.cell? ⟨g, o + q * 6 + 4, none⟩ = some (.string ⟨v.f.2.2.2.toArray⟩) := hc 4 _ rfl
          have L0 := (LF.out.on HB.out).c0
          have L1 := (LF.out.on HB.out).c1
          have L2 := (LF.out.on HB.out).c2
          have L3 := (LF.out.on HB.out).c3
          by_cases hv2 : v.k = 2
          · have hvf := HKD.out v hvm hv2
            rw [hvf] at c1 c2 c3 c4
            rw [hv2] at c0
            have c4' := c4
            rw [← HD.out] at c4'
            rw [if_pos hv2] at HSn
            have HCE : Hid (∀ w9, Below wr.heap.size wr w9 → w9.cell? ⟨g, o + q * 6 + 1, none⟩ = some (.bool f.1) ∧ w9.cell? ⟨g, o + q * 6 + 2, none⟩ = some (.int .u32 (f.2.1 : Int)) ∧ w9.cell? ⟨g, o + q * 6 + 3, none⟩ = some (.bool f.2.2.1) ∧ w9.cell? ⟨g, o + q * 6 + 4, none⟩ = some (.string D)) := fun w9 hb => ⟨cell_on8 hb c1, cell_on8 hb c2, cell_on8 hb c3, cell_on8 hb c4'⟩
            have HLF : Hid (∀ w9, Below wr.heap.size wr w9 → w9.cell? ⟨W.heap.size, 0, none⟩ = some (.bool f.1) ∧ w9.cell? ⟨W.heap.size, 1, none⟩ = some (.int .u32 (f.2.1 : Int)) ∧ w9.cell? ⟨W.heap.size, 2, none⟩ = some (.bool f.2.2.1) ∧ w9.cell? ⟨W.heap.size, 3, none⟩ = some (.string D)) := fun w9 hb => ⟨cell_on8 hb L0, cell_on8 hb L1, cell_on8 hb L2, cell_on8 hb L3⟩
            clear c4 hv hc hvm hvf hv2 EV c1 c2 c3 c4' L0 L1 L2 L3
            go_wp2_with fail
            refine Lw.wp_region_quiet_below (by kernel_rfl) (by kernel_rfl) ?_
            repeat (first
              | go_big_quiet_skip
              | (go_big_quiet_want; go_big_quiet_op; go_big_quiet_on)
              | (go_big_quiet_want; go_big_quiet_op; apply Exists.intro; refine ⟨fun _ hb' => ?_, ?_⟩; (first
                | exact Lw.val_rfl _
                | (simp [go_sem, (HCE.out _ hb').1, (HCE.out _ hb').2.1, (HCE.out _ hb').2.2.1, (HCE.out _ hb').2.2.2]; rfl)
                | (simp [go_sem, (HLF.out _ hb').1, (HLF.out _ hb').2.1, (HLF.out _ hb').2.2.1, (HLF.out _ hb').2.2.2]; rfl)); go_big_quiet_on))
            refine wpQuiet_nil ?_
            intro w9 hb9
            have HB9 : Hid (Below w'.heap.size w' w9) := below_joinK HB.out hb9 HB.out.size
            clear hb9 HB HCE HLF c0
            go_wp2
            go_roundw
            case rel => exact ⟨q + 1, by omega, rfl, by rw [HSn.out]; rfl, HB9⟩
            case measure => simp only [intOf]; omega
          · have hk2 : ((v.k : Int) == 2) = false := by simp; omega
            rw [if_neg hv2] at HSn
            clear c1 c2 c3 c4 hv hc hvm hv2 EV
            generalize (v.k : Int) = vk at *
            go_wp2
            go_roundw
            case rel => exact ⟨q + 1, by omega, rfl, by rw [HSn.out]; rfl, HB⟩
            case measure => simp only [intOf]; omega
        · obtain rfl : q = E.length := by omega
          have hte : E.take E.length = E := List.take_of_length_le (Nat.le_refl _)
          rw [hte]
          obtain ⟨hg1, hg2⟩ := HGS.out
          have hC2 : Hid (Ctx W (fun g => w2.heap.size ≤ g) wr) := hC.out.more HB.out
          have OB2 : Hid (OwnW At (fun g => w2.heap.size ≤ g) wr p V2) := OB.out.on S HB.out
          have LF2 : Hid (Lies wr W.heap.size f.1 f.2.1 f.2.2.1 D) := LF.out.on HB.out
          clear hte hql hcq
          have hgI : (G0 : Int) + ((Mm.cnt2 E : Nat) : Int) = (G1 : Int) := by omega
          rcases hg2 with hz | hz
          · have hzI : (((Mm.cnt2 E : Nat) : Int)) = 0 := by omega
            clear hz hg1
            go_wp2
            go_roundw
            case rel => exact ⟨k + 1, V2, by omega, rfl, by rw [HG1.out, ← hgI, hzI, Int.add_zero], HS, OB2, hC2, LF2⟩
            case measure => simp only [intOf]; omega
          · have hzI : (((Mm.cnt2 E : Nat) : Int)) = (K : Int) - 1 := by omega
            have hz0 : ((((Mm.cnt2 E : Nat) : Int)) != 0) = true := by simp; omega
            clear hz hg1
            go_wp2
            go_roundw
            case rel => exact ⟨k + 1, V2, by omega, rfl, by rw [HG1.out, ← hgI, hzI], HS, OB2, hC2, LF2⟩
            case measure => simp only [intOf]; omega
    · obtain rfl : k = 200 := by omega
      have hh := H1.out.2.1
      have hm := H1.out.1
      have ho := HLen.out
      have eS : Mm.hS f 200 = [⟨6, Cm.noF, 0⟩, ⟨1, f, 0⟩] := by unfold Mm.hS; rw [if_neg (by decide), if_neg (by omega)]
      have eG : Mm.gotA f K 200 = K - 1 := by unfold Mm.gotA; rw [if_pos (by omega)]
      have e0 : (if s < V.ms.length then V.hs.getD s [] else []) = [⟨6, Cm.noF, 0⟩, ⟨1, f, 0⟩] := by rw [hm, hh, Mm.pl_len, if_pos hsK, Mm.pl_get _ _ _ _ _ _ hsK, if_pos rfl, eS]
      have eGI : (((Mm.gotA f K 200 : Nat)) : Int) = (K : Int) - 1 := by rw [eG]; omega
      rw [eGI]
      clear hh hm eS eG H1 hlt hk ho eGI
      go_wp2_with fail
      refine (ow_heard S s _ WS.out e0 OB.out).mono ?_
      rintro e w' ⟨sA, cA, rfl, EV', hb'⟩
      obtain ⟨gA, oA, rfl, gAl, gAc⟩ := EV'.at 1 _ rfl
      have kA : w'.cell? ⟨gA, oA + 6, none⟩ = some (.int .i64 1) := gAc 0 _ rfl
      obtain ⟨cA1, cA2⟩ : 2 ≤ cA ∧ cA ≤ maxLen := ⟨EV'.1, EV'.2.1⟩
      replace hC : Hid (Ctx W _ w') := hC.out.more hb'
      clear EV' hb' gAc e0
      go_wp2
      go_ret
      exact ⟨rfl, hC.out.below⟩
theorem walkA (S : WireSpec At) (a0 : Int) (w0 : (Lit.int .u8 a0).wf = true) (a1 : Int) (w1 : (Lit.int .u8 a1).wf = true) (x : Bool) (n0 : Int) (r : Bool) (d : ByteArray) (w2 : (Lit.int .u32 n0).wf = true) (W : World) (hT : Tab W) :
    Calls Tryd.prog 5 #[.int .u8 a0, .int .u8 a1, .agg #[.bool x, .int .u32 n0, .bool r, .string d]] W fun e w' => e = .returned (.bool true) ∧ Below W.heap.size W w' := by
  obtain ⟨n, rfl, hn⟩ := u32_nat w2
  obtain ⟨b1, b2⟩ := bounds_u8 w0
  obtain ⟨b3, b4⟩ := bounds_u8 w1
  obtain ⟨A, rfl⟩ : ∃ A : Nat, a0 = (A : Int) := ⟨a0.toNat, by omega⟩
  obtain ⟨B, rfl⟩ : ∃ B : Nat, a1 = (B : Int) := ⟨a1.toNat, by omega⟩
  have hd : d = ⟨((x, n, r, d.data.toList) : Cm.Fr).2.2.2.toArray⟩ := rfl
  by_cases h8 : 8 < d.size
  · exact early S _ _ (x, n, r, d.data.toList) d hd (Or.inl h8) W hT
  · cases hf : Mm.isFr (x, n, r, d.data.toList)
    · exact early S _ _ (x, n, r, d.data.toList) d hd (Or.inr ⟨h8, hf⟩) W hT
    · exact main S A B (by omega) (by omega) (x, n, r, d.data.toList) d hd h8 hf hn W hT
end Go.Proofs.YtoohmpkhljfpbaaDoor.wireAll
