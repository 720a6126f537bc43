/- WireSame: nodes that send nothing hear the same, whatever frames node 0 is asked to send and whatever bits are turned; no condition. -/
import Derived.Test.YtoohmpkhljfpbaaDoorH4
import Derived.ProofKit
import Derived.OpenShut
namespace Go.Proofs.YtoohmpkhljfpbaaDoor.wireSame
open Go.ChangeShapes Go.WideShapes Go.ChangeAt Go.RowKit
set_option linter.unusedVariables false
variable {At : Ob.A Mm.Wi}
/-- All but node 0 are alike. -/
def Sym (W : Mm.Wi) (n : Nat) : Prop := (∃ x y h g, W.ms = Mm.pl 4 0 x y ∧ W.hs = Mm.pl 4 0 h g ∧ g.length ≤ 100) ∧ W.bs.length = n
theorem sym_new (qs : List Nat) (qb : Nat) : Sym (Mm.wnew 4 qs qb) 0 := by
  refine ⟨⟨Mm.fresh, Mm.fresh, [], [], ?_, ?_, by decide⟩, rfl⟩
  · rw [Mm.pl_same]; rfl
  · rw [Mm.pl_same]; rfl
theorem sym_ask {W : Mm.Wi} {n : Nat} (h : Sym W n) (f : Cm.Fr) : Sym (Mm.wask W 0 f).2 n := by
  obtain ⟨⟨x, y, a, b, h1, h2, h3⟩, h4⟩ := h
  unfold Mm.wask
  rw [if_pos ⟨by decide, by rw [h1, Mm.pl_len]; decide⟩]
  refine ⟨⟨(Mm.ask (W.ms.getD 0 Mm.fresh) f).2, y, a, b, ?_, h2, h3⟩, h4⟩
  show W.ms.set 0 (Mm.ask (W.ms.getD 0 Mm.fresh) f).2 = _
  generalize (Mm.ask (W.ms.getD 0 Mm.fresh) f).2 = z
  rw [h1, Mm.pl_set]
theorem sym_next {W : Mm.Wi} {n : Nat} (h : Sym W n) (fl : Bool) : Sym (Mm.wnext W fl) (n + 1) := by
  obtain ⟨⟨x, y, a, b, h1, h2, h3⟩, h4⟩ := h
  obtain ⟨k1, k2⟩ := Mm.wnext_pl h1 h2 fl
  refine ⟨⟨_, _, _, _, k1, k2, Mm.lst_len _⟩, ?_⟩
  show (W.bs ++ [_]).length = n + 1
  rw [List.length_append, h4]; rfl
set_option maxRecDepth 100000 in
set_option maxHeartbeats 4000000 in
theorem long (S : WireSpec At) (s0 : Option Addr) (len0 cap0 : Nat) (s1 : Option Addr) (len1 cap1 : Nat) (h : 3 < len0 ∨ ¬ 3 < len0 ∧ len1 < len0) (W : World) (hT : Tab W) :
    Calls Tryd.prog 6 #[.slice s0 len0 cap0, .slice s1 len1 cap1] W fun e w' => e = .returned (.bool true) ∧ Below W.heap.size W w' := by
  have HT : Hid (Tab W) := hT
  clear hT
  rcases h with h | ⟨h, h'⟩
  all_goals
    go_enter Tryd.func6, Tryd.ntmps6
    go_wp2_with fail
    refine (known8_any S _ HT.out).mono ?_
    rintro e w1 ⟨rfl, hb⟩
    have hA : Hid (Below W.heap.size W w1) := hb
    clear hb
    go_wp2
    go_ret
    exact ⟨rfl, hA.out⟩
set_option maxRecDepth 100000 in
set_option maxHeartbeats 4000000 in
theorem row (S : WireSpec At) (s0 : Option Addr) (len0 cap0 : Nat) (s1 : Option Addr) (len1 cap1 : Nat) (fr : Nat → Cm.Fr) (B : Nat → Nat) (h3 : len0 ≤ 3) (h1 : len0 ≤ len1) (hm : len1 ≤ maxLen) (W : World) (hT : Tab W) (hR : FrRow W s0 len0 fr) (hU : U8Row W s1 len1 B) :
    Calls Tryd.prog 6 #[.slice s0 len0 cap0, .slice s1 len1 cap1] W fun e w' => e = .returned (.bool true) ∧ Below W.heap.size W w' := by
  have HT : Hid (Tab W) := hT
  have HR : Hid (FrRow W s0 len0 fr) := hR
  have HU : Hid (U8Row W s1 len1 B) := hU
  have d1 : ¬ 3 < len0 := by omega
  have d2 : ¬ len1 < len0 := by omega
  clear hT hR hU
  go_enter Tryd.func6, Tryd.ntmps6
  go_wp2_with fail
  refine (known8_any S _ HT.out).mono ?_
  rintro e w1 ⟨rfl, hb⟩
  have hC : Hid (Ctx W (fun g => w1.heap.size ≤ g) w1) := Ctx.from HT.out hb
  clear hb
  go_wp2_with fail
  refine (ow_new S 4 (by decide) hC.out).mono ?_
  rintro e w2 ⟨p, qs, qb, rfl, O', C', hk'⟩
  replace hC : Hid (Ctx W _ w2) := C'
  have OB : Hid (OwnW At _ w2 p (Mm.wnew 4 qs qb)) := O'
  clear O' C' hk'
  have H1 : Hid (Sym (Mm.wnew 4 qs qb) 0) := sym_new qs qb
  go_wp2_with fail
  go_loopw [6] (fun i wr => ∃ (k : Nat) (V : Mm.Wi), k ≤ len0 ∧ i = .int .i64 k ∧ Hid (Sym V (250 * k)) ∧ Hid (OwnW At (fun g => w1.heap.size ≤ g) wr p V) ∧ Hid (Ctx W (fun g => w1.heap.size ≤ g) wr)) (fun i _ => len0 - (intOf i).toNat)
  case atStart => exact ⟨0, _, Nat.zero_le _, rfl, H1, OB, hC⟩
  case round =>
    clear OB hC H1
    obtain ⟨i, V, hi, rfl, H1, OB, hC⟩ := hrel
    by_cases hlt : i < len0
    · obtain ⟨b0, o0, rfl, hfr⟩ : ∃ b off, s0 = some ⟨b, off, none⟩ ∧ ∀ i, i < len0 → W.cell? ⟨b, off + i * 4, none⟩ = some (.bool (fr i).1) ∧ W.cell? ⟨b, off + i * 4 + 1, none⟩ = some (.int .u32 ((fr i).2.1 : Int)) ∧ W.cell? ⟨b, off + i * 4 + 2, none⟩ = some (.bool (fr i).2.2.1) ∧ W.cell? ⟨b, off + i * 4 + 3, none⟩ = some (.string ⟨(fr i).2.2.2.toArray⟩) ∧ (fr i).2.1 < 4294967296 := by
        rcases HR.out with h | h
        · omega
        · exact h
      obtain ⟨b1, o1, rfl, hub⟩ : ∃ b off, s1 = some ⟨b, off, none⟩ ∧ ∀ i, i < len1 → W.cell? ⟨b, off + i, none⟩ = some (.int .u8 (B i : Int)) ∧ B i < 256 := by
        rcases HU.out with h | h
        · omega
        · exact h
      obtain ⟨q0, q1, q2, q3, qn⟩ := hfr i hlt
      obtain ⟨u0, ub⟩ := hub i (by omega)
      have HQ : Hid (∀ w', Below W.heap.size W w' → w'.cell? ⟨b0, o0 + i * 4, none⟩ = some (.bool (fr i).1) ∧ w'.cell? ⟨b0, o0 + i * 4 + 1, none⟩ = some (.int .u32 ((fr i).2.1 : Int)) ∧ w'.cell? ⟨b0, o0 + i * 4 + 2, none⟩ = some (.bool (fr i).2.2.1) ∧ w'.cell? ⟨b0, o0 + i * 4 + 3, none⟩ = some (.string ⟨(fr i).2.2.2.toArray⟩)) := fun w' hb => ⟨cell_on8 hb q0, cell_on8 hb q1, cell_on8 hb q2, cell_on8 hb q3⟩
      have HV : Hid (∀ w', Below W.heap.size W w' → w'.cell? ⟨b1, o1 + i, none⟩ = some (.int .u8 (B i : Int))) := fun w' hb => cell_on8 hb u0
      obtain ⟨r0, r1, r2, r3⟩ := HQ.out _ hC.out.below
      clear q0 q1 q2 q3 u0 hfr hub
      by_cases hd : 20 < (fr i).2.2.2.length
      · go_wp2
        go_ret
        exact ⟨rfl, hC.out.below⟩
      · have hd2 : (fr i).2.2.2.length ≤ 1000 := by omega
        obtain ⟨ak, V2, hak⟩ : ∃ k V2, Mm.wask V 0 (fr i) = (k, V2) := ⟨_, _, rfl⟩
        have H2 : Hid (Sym V2 (250 * i)) := (by have h := sym_ask H1.out (fr i); rw [hak] at h; exact h)
        go_wp2_with fail
        refine (ow_ask S 0 (fr i) hak (by decide) qn hd2 OB.out hC.out).mono ?_
        rintro e w' ⟨rfl, O', C', hk'⟩
        replace hC : Hid (Ctx W _ w') := C'
        replace OB : Hid (OwnW At _ w' _ _) := O'
        clear O' C' hk' r0 r1 r2 r3 H1 hak
        go_wp2_with fail
        go_loopw [7] (fun j wr => ∃ (k : Nat) (V : Mm.Wi), k ≤ 250 ∧ j = .int .i64 k ∧ Hid (Sym V (250 * i + k)) ∧ Hid (OwnW At (fun g => w1.heap.size ≤ g) wr p V) ∧ Hid (Ctx W (fun g => w1.heap.size ≤ g) wr)) (fun j _ => 250 - (intOf j).toNat)
        case atStart => exact ⟨0, V2, Nat.zero_le _, rfl, H2, OB, hC⟩
        case round =>
          clear OB hC H2
          obtain ⟨k, V, hk, rfl, H1, OB, hC⟩ := hrel
          by_cases hlk : k < 250
          · have u0 := HV.out _ hC.out.below
            have hbl : V.bs.length ≤ 100000 := by rw [H1.out.2]; omega
            have H3 : Hid (∀ fl, Sym (Mm.wnext V fl) (250 * i + k + 1)) := fun fl => sym_next H1.out fl
            go_wp2_with fail
            refine (ow_step S _ hbl OB.out hC.out).mono ?_
            rintro e w' ⟨sl, cp, rfl, EV', O', C', hk'⟩
            replace hC : Hid (Ctx W _ w') := C'
            replace OB : Hid (OwnW At _ w' _ _) := O'
            have H4 := H3.out
            clear O' C' hk' EV' H1 hbl u0 H3
            go_wp2
            go_roundw
            case rel => exact ⟨k + 1, _, by omega, rfl, H4 _, OB, hC⟩
            case measure => simp only [intOf]; omega
          · obtain rfl : k = 250 := by omega
            clear hlk hk
            go_wp2
            go_roundw
            case rel => exact ⟨i + 1, V, by omega, rfl, (by have h := H1.out; rw [show 250 * i + 250 = 250 * (i + 1) by omega] at h; exact h), OB, hC⟩
            case measure => simp only [intOf]; omega
    · obtain rfl : i = len0 := by omega
      obtain ⟨⟨x, y, h, g, e1, e2, e3⟩, e4⟩ := H1.out
      have ml : V.ms.length = 4 := by rw [e1, Mm.pl_len]
      have f2 : (if 2 < V.ms.length then V.hs.getD 2 [] else []) = g := by rw [ml, if_pos (by decide), e2, Mm.pl_get _ _ _ _ _ _ (by decide), if_neg (by decide)]
      have f3 : (if 3 < V.ms.length then V.hs.getD 3 [] else []) = g := by rw [ml, if_pos (by decide), e2, Mm.pl_get _ _ _ _ _ _ (by decide), if_neg (by decide)]
      have m1 : V.ms[1]? = some y := by rw [e1, Mm.pl_get? _ _ _ _ _ (by decide), if_neg (by decide)]
      have m2 : V.ms[2]? = some y := by rw [e1, Mm.pl_get? _ _ _ _ _ (by decide), if_neg (by decide)]
      have m3 : V.ms[3]? = some y := by rw [e1, Mm.pl_get? _ _ _ _ _ (by decide), if_neg (by decide)]
      have HML : Hid (V.ms.length = 4 ∧ V.ms[1]? = some y ∧ V.ms[2]? = some y ∧ V.ms[3]? = some y ∧ g.length ≤ 100) := ⟨ml, m1, m2, m3, e3⟩
      clear H1 e1 e2 e3 e4 ml m1 m2 m3 hlt hi
      go_wp2_with fail
      refine (ow_heard S 2 _ (by decide) f2 OB.out).mono ?_
      rintro e w' ⟨sEA, cEA, rfl, EV', hb'⟩
      replace OB : Hid (OwnW At _ w' _ _) := OB.out.on S hb'
      replace hC : Hid (Ctx W _ w') := hC.out.more hb'
      have EA : Hid (EvIn w' sEA cEA _) := EV'
      clear EV' hb'
      go_wp2_with fail
      refine (ow_heard S 3 _ (by decide) f3 OB.out).mono ?_
      rintro e w' ⟨sEB, cEB, rfl, EV', hb'⟩
      replace OB : Hid (OwnW At _ w' _ _) := OB.out.on S hb'
      replace hC : Hid (Ctx W _ w') := hC.out.more hb'
      replace EA : Hid (EvIn w' _ _ _) := EA.out.on hb'
      have EB : Hid (EvIn w' sEB cEB _) := EV'
      clear EV' hb'
      clear f2 f3
      have HSm : Hid (∀ w9, Below w'.heap.size w' w9 → Calls Tryd.prog 18 #[.slice sEA g.length cEA, .slice sEB g.length cEB] w9 fun e w'' => e = .returned (.bool true) ∧ Below w9.heap.size w9 w'') := fun w9 hb => same8_any w9 _ _ _ _ g (EA.out.on hb) (EB.out.on hb) (by have := HML.out.2.2.2.2; omega)
      have HMa : Hid (∀ (i : Nat), i < 4 → ∀ w9, Below w'.heap.size w' w9 → Calls Tryd.prog 12 #[bptr p, .int .i64 (i : Int)] w9 fun e w'' => e = .returned (bptr (V.qs.getD i 0)) ∧ Below w9.heap.size w9 w'') := fun i hi w9 hb => ow_mac S i (by rw [HML.out.1]; exact hi) (OB.out.on S hb)
      have HCo : Hid (∀ (i : Nat), i = 1 ∨ i = 2 ∨ i = 3 → ∀ w9, Below w'.heap.size w' w9 → Calls Tryd.prog 19 #[bptr (V.qs.getD i 0)] w9 fun e w'' => e = .returned (.agg #[.int .i64 y.cs, .int .i64 y.cg]) ∧ Below w9.heap.size w9 w'') := fun i hi w9 hb => ow_counts S i (by rcases hi with rfl | rfl | rfl; exact HML.out.2.1; exact HML.out.2.2.1; exact HML.out.2.2.2.1) (OB.out.on S hb) (hC.out.more hb).tab
      have M1 := HMa.out 1 (by decide)
      have M2 := HMa.out 2 (by decide)
      have M3 := HMa.out 3 (by decide)
      have C1 := HCo.out 1 (Or.inl rfl)
      have C2 := HCo.out 2 (Or.inr (Or.inl rfl))
      have C3 := HCo.out 3 (Or.inr (Or.inr rfl))
      have HA : Hid (_) := And.intro M1 (And.intro M2 (And.intro M3 (And.intro C1 (And.intro C2 C3))))
      clear M1 M2 M3 C1 C2 C3 HMa HCo HML EA EB OB
      generalize V.qs.getD 1 0 = z1 at *
      generalize V.qs.getD 2 0 = z2 at *
      generalize V.qs.getD 3 0 = z3 at *
      go_wp2_with fail
      have HB : Hid (Below w'.heap.size w' w') := Below.refl _ _
      refine (HSm.out _ HB.out).mono ?_
      rintro e v0 ⟨rfl, hb⟩
      replace HB : Hid (Below w'.heap.size w' v0) := below_joinK HB.out hb HB.out.size
      clear hb
      go_wp2_with fail
      refine (HA.out.2.1 _ HB.out).mono ?_
      rintro e v1 ⟨rfl, hb⟩
      replace HB : Hid (Below w'.heap.size w' v1) := below_joinK HB.out hb HB.out.size
      clear hb
      go_wp2_with fail
      refine (HA.out.2.2.2.2.1 _ HB.out).mono ?_
      rintro e v2 ⟨rfl, hb⟩
      replace HB : Hid (Below w'.heap.size w' v2) := below_joinK HB.out hb HB.out.size
      clear hb
      go_wp2_with fail
      refine (HA.out.2.2.1 _ HB.out).mono ?_
      rintro e v3 ⟨rfl, hb⟩
      replace HB : Hid (Below w'.heap.size w' v3) := below_joinK HB.out hb HB.out.size
      clear hb
      go_wp2_with fail
      refine (HA.out.2.2.2.2.2 _ HB.out).mono ?_
      rintro e v4 ⟨rfl, hb⟩
      replace HB : Hid (Below w'.heap.size w' v4) := below_joinK HB.out hb HB.out.size
      clear hb
      go_wp2_with fail
      refine (HA.out.1 _ HB.out).mono ?_
      rintro e v5 ⟨rfl, hb⟩
      replace HB : Hid (Below w'.heap.size w' v5) := below_joinK HB.out hb HB.out.size
      clear hb
      go_wp2_with fail
      refine (HA.out.2.2.2.1 _ HB.out).mono ?_
      rintro e v6 ⟨rfl, hb⟩
      replace HB : Hid (Below w'.heap.size w' v6) := below_joinK HB.out hb HB.out.size
      clear hb
      go_wp2_with fail
      refine (HA.out.2.1 _ HB.out).mono ?_
      rintro e v7 ⟨rfl, hb⟩
      replace HB : Hid (Below w'.heap.size w' v7) := below_joinK HB.out hb HB.out.size
      clear hb
      go_wp2_with fail
      refine (HA.out.2.2.2.2.1 _ HB.out).mono ?_
      rintro e v8 ⟨rfl, hb⟩
      replace HB : Hid (Below w'.heap.size w' v8) := below_joinK HB.out hb HB.out.size
      clear hb
      have hC9 := hC.out.more HB.out
      go_wp2
      go_ret
      exact ⟨rfl, hC9.below⟩
theorem walkA (S : WireSpec At) (s0 : Option Addr) (len0 cap0 : Nat) (s1 : Option Addr) (len1 cap1 : Nat) {w : World} (w0 : ∃ fr, FrRow w s0 len0 fr) (w1 : len1 ≤ maxLen ∧ ∃ B, U8Row w s1 len1 B) (w' : World) (hw : w' = w) (hT : Tab w') :
    Calls Tryd.prog 6 #[.slice s0 len0 cap0, .slice s1 len1 cap1] w' fun e w'' => e = .returned (.bool true) ∧ Below w'.heap.size w' w'' := by
  subst hw
  obtain ⟨fr, h0⟩ := w0
  obtain ⟨hm, B, h1⟩ := w1
  by_cases h3 : 3 < len0
  · exact long S _ _ _ _ _ _ (Or.inl h3) _ hT
  · by_cases h4 : len1 < len0
    · exact long S _ _ _ _ _ _ (Or.inr ⟨h3, h4⟩) _ hT
    · exact row S _ _ _ _ _ _ fr B (by omega) (by omega) hm _ hT h0 h1
end Go.Proofs.YtoohmpkhljfpbaaDoor.wireSame
