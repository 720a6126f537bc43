/- MacAlone: alone on the wire nobody takes its frame: it fails so often until it is off, and says nothing more; no condition. -/
import Derived.Test.YthappkhiiopfgaaDoorMa
import Derived.ProofKit
import Derived.OpenShut
namespace Go.Proofs.YthappkhiiopfgaaDoor.macAlone
open Go.ChangeShapes Go.WideShapes Go.ChangeAt Go.RowKit
set_option linter.unusedVariables false
variable {At : World → Nat → (Nat → Prop) → Mm.St → Prop}
def LenSpec : Prop := ∀ (f : Cm.Fr) (w : World), Tab w → f.2.1 < 4294967296 → Calls Tryd.prog 16 #[frV f] w fun e w' => e = .returned (.int .i64 ((Cm.enc f.1 f.2.1 f.2.2.1 f.2.2.2).length : Int)) ∧ Below w.heap.size w w'
theorem enc_row (f : Cm.Fr) (hf : Mm.isFr f = true) : Cm.enc f.1 f.2.1 f.2.2.1 f.2.2.2 = Mm.outB f := by
  unfold Cm.enc
  have : Fm.isF f.1 f.2.1 f.2.2.1 f.2.2.2 = true := hf
  rw [this]
  rfl
theorem enc_none (f : Cm.Fr) (hf : Mm.isFr f = false) : Cm.enc f.1 f.2.1 f.2.2.1 f.2.2.2 = [] := by
  unfold Cm.enc
  have : Fm.isF f.1 f.2.1 f.2.2.1 f.2.2.2 = false := hf
  rw [this]
  rfl
theorem sign_dv (b : Bool) : (if b then (49 : Int) else 48) = ((Bm.sign b).toNat : Int) := by cases b <;> rfl
/-- How often it failed. -/
def fails (L t j : Nat) : Nat := if L - 9 < j then t + 1 else t
set_option maxRecDepth 100000 in
set_option maxHeartbeats 4000000 in
theorem walkF (S : MacSpec At) (HK : AckSpec) (HLn : LenSpec) (f : Cm.Fr) (d : ByteArray) (hd : d = ⟨f.2.2.2.toArray⟩) (hn : f.2.1 < 4294967296) (W : World) (hT : Tab W) :
    Calls Tryd.prog 5 #[.agg #[.bool f.1, .int .u32 (f.2.1 : Int), .bool f.2.2.1, .string d]] W fun e w' => e = .returned (.bool true) ∧ Below W.heap.size W w' := by
  have hdl : d.size = f.2.2.2.length := by rw [hd]; simp [ByteArray.size]
  have LF : Hid (Lies (W.alloc (.cells #[.bool f.1, .int .u32 (f.2.1 : Int), .bool f.2.2.1, .string d] 24)) W.heap.size f.1 f.2.1 f.2.2.1 d) := Lies.new W _ _ _ _
  have hk := known7_any S HK _ (hT.alloc (.cells #[.bool f.1, .int .u32 (f.2.1 : Int), .bool f.2.2.1, .string d] 24))
  have HT : Hid (Tab W) := hT
  have HLn' : Hid (∀ w, Tab w → Calls Tryd.prog 16 #[.agg #[.bool f.1, .int .u32 (f.2.1 : Int), .bool f.2.2.1, .string d]] w fun e w' => e = .returned (.int .i64 ((Cm.enc f.1 f.2.1 f.2.2.1 f.2.2.2).length : Int)) ∧ Below w.heap.size w w') := fun w hT => by rw [hd]; exact HLn f w hT hn
  have HAs : Hid (∀ (P : Nat → Prop) (w : World) (p : Nat) (m m' : Mm.St) (k : Nat), Mm.ask m f = (k, m') → f.2.2.2.length ≤ 1000 → OwnM At P w p m → Ctx W P w → Calls Tryd.prog 15 #[bptr p, .agg #[.bool f.1, .int .u32 (f.2.1 : Int), .bool f.2.2.1, .string d]] w fun e w' => e = .returned (.int .i64 (k : Int)) ∧ OwnM At P w' p m' ∧ Ctx W P w' ∧ Kept P w w') := fun P w p m m' k hm h2 h hC => by rw [hd]; exact am_ask S f hm hn h2 h hC
  have HD : Hid (d = ⟨f.2.2.2.toArray⟩) := hd
  clear hT HK HLn hd hn
  go_enter Tryd.func5, Tryd.ntmps5
  go_wp2_with fail
  refine hk.mono ?_
  rintro e w1 ⟨rfl, hb1⟩
  replace LF : Hid (Lies w1 _ _ _ _ _) := LF.out.on hb1
  have hA : Hid (Below W.heap.size W w1) := below_joinK ((Below.refl _ _).alloc (Nat.le_refl _) _) hb1 (by simp)
  clear hk hb1
  have LF0 := LF.out.c0
  have LF1 := LF.out.c1
  have LF2 := LF.out.c2
  have LF3 := LF.out.c3
  by_cases hlong : 20 < d.size
  · clear HLn' HAs
    go_wp2
    go_ret
    exact ⟨rfl, hA.out⟩
  · go_wp2_with fail
    refine (HLn'.out _ (HT.out.below hA.out)).mono ?_
    rintro e w2 ⟨rfl, hb2⟩
    cases hf : Mm.isFr f
    · rw [enc_none f hf]
      have hA2 : Hid (Below W.heap.size W w2) := hA.out.trans (hb2.mono hA.out.size)
      clear hb2 HLn' HAs LF0 LF1 LF2 LF3 LF
      go_wp2
      go_ret
      exact ⟨rfl, hA2.out⟩
    · rw [enc_row f hf]
      obtain ⟨hL1, hL2⟩ := Mm.out_len hf
      have hol : (((Mm.outB f).length : Int) == 0) = false := by rw [beq_eq_false_iff_ne]; omega
      have hA2 : Hid (Below W.heap.size W w2) := hA.out.trans (hb2.mono hA.out.size)
      replace LF : Hid (Lies w2 _ _ _ _ _) := LF.out.on hb2
      have hC : Hid (Ctx W (fun g => w2.heap.size ≤ g) w2) := Ctx.from HT.out hA2.out
      have LFP : Hid (¬ (fun g => w2.heap.size ≤ g) W.heap.size) := Nat.not_le.2 LF.out.lt
      have HNx : Hid (∀ t j, t < 32 → j ≤ (Mm.outB f).length + 8 → j ≠ (Mm.outB f).length - 9 → Mm.sample (Mm.al f t j) (Mm.drive (Mm.al f t j)) = (if j = (Mm.outB f).length + 8 then Mm.pre f (t + 1) 0 else Mm.al f t (j + 1), if j = 0 then [⟨6, Cm.noF, 0⟩] else [])) := fun t j => Mm.al_next hf t j
      have HNi : Hid (∀ t, t < 32 → Mm.drive (Mm.al f t ((Mm.outB f).length - 9)) = true ∧ Mm.sample (Mm.al f t ((Mm.outB f).length - 9)) true = if t = 31 then (Mm.offS f, [⟨4, f, 71⟩, ⟨7, Cm.noF, 0⟩]) else (Mm.al f t ((Mm.outB f).length - 8), [⟨4, f, 71⟩])) := fun t => Mm.al_nine hf t
      have HPa : Hid (∀ t, Mm.ask (Mm.pre f t 0) f = (0, Mm.al f t 0)) := fun t => Mm.pre_ask hf t
      clear hb2 HLn' LF0 LF1 LF2 LF3 hA hA2 HT
      generalize (Mm.outB f).length = L at *
      have LF0 := LF.out.c0
      have LF1 := LF.out.c1
      have LF2 := LF.out.c2
      have LF3 := LF.out.c3
      go_wp2_with fail
      refine (am_new S hC.out).mono ?_
      rintro e w' ⟨p, rfl, O', C', hk'⟩
      replace hC : Hid (Ctx W _ w') := C'
      have OM : Hid (OwnM At _ w' _ _) := O'
      replace LF : Hid (Lies w' _ _ _ _ _) := LF.out.kept hk' LFP.out
      try clear LF0 LF1 LF2 LF3
      have LF0 := LF.out.c0
      have LF1 := LF.out.c1
      have LF2 := LF.out.c2
      have LF3 := LF.out.c3
      clear O' C' hk'
      clear LF0 LF1 LF2 LF3
      go_wp2_with fail
      go_loopw [4, 5] (fun fl i wr => ∃ k c : Nat, k < 9000 ∧ i = .int .i64 k ∧ fl = .int .i64 c ∧ c ≤ 32 ∧ Hid ((k < 3 ∧ c = 0 ∧ OwnM At (fun g => w2.heap.size ≤ g) wr p (Mm.newS k)) ∨ ∃ t j, k = 3 + t * (L + 9) + j ∧ t < 32 ∧ j ≤ L + 8 ∧ c = fails L t j ∧ (t = 31 → j ≤ L - 9) ∧ OwnM At (fun g => w2.heap.size ≤ g) wr p (Mm.pre f t j)) ∧ Hid (Ctx W (fun g => w2.heap.size ≤ g) wr) ∧ Hid (Lies wr W.heap.size f.1 f.2.1 f.2.2.1 d)) (fun _ i _ => 9000 - (intOf i).toNat)
      case atStart => exact ⟨0, 0, by decide, rfl, rfl, by decide, Or.inl ⟨by decide, rfl, OM.out⟩, hC, LF⟩
      case round =>
        clear OM hC LF
        obtain ⟨k, c, hk, rfl, rfl, hc, HS, hC, LF⟩ := hrel
        have LF0 := LF.out.c0
        have LF1 := LF.out.c1
        have LF2 := LF.out.c2
        have LF3 := LF.out.c3
        rcases HS.out with ⟨hk3, hc0, O⟩ | ⟨t, j, hkj, ht, hj, hfl, ht31, O⟩
        · have OM : Hid (OwnM At _ wr p (Mm.newS k)) := O
          have HC0 : Hid (c = 0) := hc0
          clear HS O HNx HNi HPa HAs hc0
          have h1 : decide ((Mm.newS k).ph = .idle) = false := by unfold Mm.newS; rw [if_neg (by omega)]; rfl
          have h2 : (if Mm.drive (Mm.newS k) then (49 : Int) else 48) = 49 := by rw [show Mm.newS k = Mm.pz (3 - k) false Cm.noF [] false 0 0 from by unfold Mm.newS; rw [if_neg (by omega)]]; rfl
          go_wp2_with fail
          refine (am_idle S h1 OM.out hC.out).mono ?_
          rintro e w' ⟨rfl, O', C', hk'⟩
          replace hC : Hid (Ctx W _ w') := C'
          replace OM : Hid (OwnM At _ w' _ _) := O'
          replace LF : Hid (Lies w' _ _ _ _ _) := LF.out.kept hk' LFP.out
          try clear LF0 LF1 LF2 LF3
          have LF0 := LF.out.c0
          have LF1 := LF.out.c1
          have LF2 := LF.out.c2
          have LF3 := LF.out.c3
          clear O' C' hk'
          go_wp2_with fail
          refine (am_drive S h2 OM.out hC.out).mono ?_
          rintro e w' ⟨rfl, O', C', hk'⟩
          replace hC : Hid (Ctx W _ w') := C'
          replace OM : Hid (OwnM At _ w' _ _) := O'
          replace LF : Hid (Lies w' _ _ _ _ _) := LF.out.kept hk' LFP.out
          try clear LF0 LF1 LF2 LF3
          have LF0 := LF.out.c0
          have LF1 := LF.out.c1
          have LF2 := LF.out.c2
          have LF3 := LF.out.c3
          clear O' C' hk'
          go_wp2_with fail
          refine (am_quiet S 49 (Mm.newS_one k) OM.out hC.out).mono ?_
          rintro e w' ⟨sl, cp, rfl, O', C', hk'⟩
          replace hC : Hid (Ctx W _ w') := C'
          replace OM : Hid (OwnM At _ w' _ _) := O'
          replace LF : Hid (Lies w' _ _ _ _ _) := LF.out.kept hk' LFP.out
          try clear LF0 LF1 LF2 LF3
          have LF0 := LF.out.c0
          have LF1 := LF.out.c1
          have LF2 := LF.out.c2
          have LF3 := LF.out.c3
          clear O' C' hk'
          clear h1 h2
          clear LF0 LF1 LF2 LF3
          go_wp2_with fail
          go_loopw [4, 7] (fun fl i wr => fl = .int .i64 (c : Int) ∧ i = .int .i64 0 ∧ Hid (OwnM At (fun g => w2.heap.size ≤ g) wr p (Mm.newS (k + 1))) ∧ Hid (Ctx W (fun g => w2.heap.size ≤ g) wr) ∧ Hid (Lies wr W.heap.size f.1 f.2.1 f.2.2.1 d)) (fun _ _ _ => 0)
          case atStart => exact ⟨rfl, rfl, OM, hC, LF⟩
          case round =>
            clear OM hC LF
            obtain ⟨rfl, rfl, OM, hC, LF⟩ := hrel
            go_wp2
            go_roundw
            case rel => exact ⟨k + 1, c, by omega, by go_num, rfl, hc, (by by_cases h : k + 1 < 3; exact Or.inl ⟨h, HC0.out, OM.out⟩; exact Or.inr ⟨0, 0, by omega, by decide, by omega, by rw [HC0.out]; unfold fails; rw [if_neg (by omega)], (fun h => by cases h), by rw [Mm.newS_idle (by omega)] at OM; exact OM.out⟩), hC, LF⟩
            case measure => simp [intOf]; omega
        · have OM : Hid (OwnM At _ wr p (Mm.pre f t j)) := O
          have hmul : t * (L + 9) ≤ 31 * 209 := Nat.mul_le_mul (by omega) (by omega)
          have hmu2 : (t + 1) * (L + 9) = t * (L + 9) + (L + 9) := Nat.succ_mul t (L + 9)
          have HM : Hid (k = 3 + t * (L + 9) + j ∧ t * (L + 9) ≤ 31 * 209 ∧ (t + 1) * (L + 9) = t * (L + 9) + (L + 9)) := ⟨hkj, hmul, hmu2⟩
          have HFL : Hid (c = fails L t j) := hfl
          clear HS O hkj hmul hmu2 hfl
          by_cases j0 : j = 0
          · subst j0
            obtain ⟨h1, h2⟩ := Mm.pre_idle f t
            have HA := fun w hO hC => HAs.out (fun g => w2.heap.size ≤ g) w p _ _ 0 (HPa.out t) (by omega) hO hC
            have EQ := HNx.out t 0 ht (by omega) (by omega)
            rw [if_neg (by omega), if_pos rfl] at EQ
            have h3 : (if Mm.drive (Mm.al f t 0) then (49 : Int) else 48) = 48 := rfl
            have EQ2 : Mm.sample (Mm.al f t 0) ((48 : UInt8) != 48) = (Mm.al f t (0 + 1), [⟨6, Cm.noF, 0⟩]) := EQ
            clear HNx HNi HPa HAs EQ
            go_wp2_with fail
            refine (am_idle S h1 OM.out hC.out).mono ?_
            rintro e w' ⟨rfl, O', C', hk'⟩
            replace hC : Hid (Ctx W _ w') := C'
            replace OM : Hid (OwnM At _ w' _ _) := O'
            replace LF : Hid (Lies w' _ _ _ _ _) := LF.out.kept hk' LFP.out
            try clear LF0 LF1 LF2 LF3
            have LF0 := LF.out.c0
            have LF1 := LF.out.c1
            have LF2 := LF.out.c2
            have LF3 := LF.out.c3
            clear O' C' hk'
            go_wp2_with fail
            refine (am_busy S h2 OM.out hC.out).mono ?_
            rintro e w' ⟨rfl, O', C', hk'⟩
            replace hC : Hid (Ctx W _ w') := C'
            replace OM : Hid (OwnM At _ w' _ _) := O'
            replace LF : Hid (Lies w' _ _ _ _ _) := LF.out.kept hk' LFP.out
            try clear LF0 LF1 LF2 LF3
            have LF0 := LF.out.c0
            have LF1 := LF.out.c1
            have LF2 := LF.out.c2
            have LF3 := LF.out.c3
            clear O' C' hk'
            go_wp2_with fail
            refine (HA _ OM.out hC.out).mono ?_
            rintro e w' ⟨rfl, O', C', hk'⟩
            replace hC : Hid (Ctx W _ w') := C'
            replace OM : Hid (OwnM At _ w' _ _) := O'
            replace LF : Hid (Lies w' _ _ _ _ _) := LF.out.kept hk' LFP.out
            clear O' C' hk' HA h1 h2 LF0 LF1 LF2 LF3
            go_wp2_with fail
            refine (am_drive S h3 OM.out hC.out).mono ?_
            rintro e w' ⟨rfl, O', C', hk'⟩
            replace hC : Hid (Ctx W _ w') := C'
            replace OM : Hid (OwnM At _ w' _ _) := O'
            replace LF : Hid (Lies w' _ _ _ _ _) := LF.out.kept hk' LFP.out
            try clear LF0 LF1 LF2 LF3
            have LF0 := LF.out.c0
            have LF1 := LF.out.c1
            have LF2 := LF.out.c2
            have LF3 := LF.out.c3
            clear O' C' hk'
            go_wp2_with fail
            refine (am_one S 48 EQ2 OM.out hC.out).mono ?_
            rintro e w' ⟨eg, ecap, rfl, O', C', hk', ec1, ec2, eL, e0, e1, e2, e3, e4, e5⟩
            replace hC : Hid (Ctx W _ w') := C'
            replace OM : Hid (OwnM At _ w' _ _) := O'
            replace LF : Hid (Lies w' _ _ _ _ _) := LF.out.kept hk' LFP.out
            try clear LF0 LF1 LF2 LF3
            have LF0 := LF.out.c0
            have LF1 := LF.out.c1
            have LF2 := LF.out.c2
            have LF3 := LF.out.c3
            clear O' C' hk'
            have e0' : w'.cell? ⟨eg, 0, none⟩ = some (.int .i64 6) := e0
            clear e0 e1 e2 e3 e4 e5 EQ2 h3 LF0 LF1 LF2 LF3
            have HE : Hid (w'.cell? ⟨eg, 0, none⟩ = some (.int .i64 6)) := e0'
            have HEL : Hid (eg < w'.heap.size) := eL
            clear e0'
            go_wp2_with fail
            go_loopw [4, 7] (fun fl i wr => ∃ q : Nat, q ≤ 1 ∧ fl = .int .i64 (c : Int) ∧ i = .int .i64 q ∧ Hid (Below w'.heap.size w' wr)) (fun _ i _ => 1 - (intOf i).toNat)
            case atStart => exact ⟨0, by decide, rfl, rfl, Below.refl _ _⟩
            case round =>
              obtain ⟨q, hq, rfl, rfl, hB⟩ := hrel
              by_cases hq0 : q = 0
              · subst hq0
                have e0' := (hB.out.cell (p := ⟨eg, 0, none⟩) HEL.out).trans HE.out
                go_wp2
                go_roundw
                case rel => exact ⟨1, by decide, rfl, rfl, hB⟩
                case measure => decide
              · have hq1 : (1 : Int) ≤ (q : Int) := by omega
                replace OM : Hid (OwnM At _ wr _ _) := OM.out.on S hB.out
                replace hC : Hid (Ctx W _ wr) := hC.out.more hB.out
                replace LF : Hid (Lies wr _ _ _ _ _) := LF.out.on hB.out
                go_wp2
                go_roundw
                case rel =>
                  have h := HM.out
                  exact ⟨k + 1, c, by omega, by go_num, rfl, hc, Or.inr ⟨t, 1, by omega, ht, by omega, by rw [HFL.out]; unfold fails; rw [if_neg (by omega), if_neg (by omega)], fun h => by omega, by rw [(Mm.pre_later f t 1 (by decide)).1]; exact OM.out⟩, hC, LF⟩
                case measure => simp [intOf]; omega
          · obtain ⟨hp, h1⟩ := Mm.pre_later f t j j0
            rw [hp] at OM
            by_cases j9 : j = L - 9
            · subst j9
              obtain ⟨hd9, hs9⟩ := HNi.out t ht
              have h3 : (if Mm.drive (Mm.al f t (L - 9)) then (49 : Int) else 48) = 49 := by rw [hd9]; rfl
              have HC31 : Hid (c = t) := by show c = t; rw [HFL.out]; unfold fails; rw [if_neg (by omega)]
              by_cases t31 : t = 31
              · rw [if_pos t31] at hs9
                have EQ2 : Mm.sample (Mm.al f t (L - 9)) ((49 : UInt8) != 48) = (Mm.offS f, [⟨4, f, 71⟩, ⟨7, Cm.noF, 0⟩]) := hs9
                have HA := fun w hO hC => HAs.out (fun g => w2.heap.size ≤ g) w p (Mm.offS f) (Mm.offS f) 73 rfl (by omega) hO hC
                clear HNx HNi HPa HAs hs9 hd9
                go_wp2_with fail
                refine (am_idle S h1 OM.out hC.out).mono ?_
                rintro e w' ⟨rfl, O', C', hk'⟩
                replace hC : Hid (Ctx W _ w') := C'
                replace OM : Hid (OwnM At _ w' _ _) := O'
                replace LF : Hid (Lies w' _ _ _ _ _) := LF.out.kept hk' LFP.out
                try clear LF0 LF1 LF2 LF3
                have LF0 := LF.out.c0
                have LF1 := LF.out.c1
                have LF2 := LF.out.c2
                have LF3 := LF.out.c3
                clear O' C' hk'
                go_wp2_with fail
                refine (am_drive S h3 OM.out hC.out).mono ?_
                rintro e w' ⟨rfl, O', C', hk'⟩
                replace hC : Hid (Ctx W _ w') := C'
                replace OM : Hid (OwnM At _ w' _ _) := O'
                replace LF : Hid (Lies w' _ _ _ _ _) := LF.out.kept hk' LFP.out
                try clear LF0 LF1 LF2 LF3
                have LF0 := LF.out.c0
                have LF1 := LF.out.c1
                have LF2 := LF.out.c2
                have LF3 := LF.out.c3
                clear O' C' hk'
                go_wp2_with fail
                refine (am_two S 49 EQ2 OM.out hC.out).mono ?_
                rintro e w' ⟨eg, ecap, rfl, O', C', hk', ec1, ec2, eL, e0, e1, e2, e3, e4, e5, e6⟩
                replace hC : Hid (Ctx W _ w') := C'
                replace OM : Hid (OwnM At _ w' _ _) := O'
                replace LF : Hid (Lies w' _ _ _ _ _) := LF.out.kept hk' LFP.out
                have HE : Hid (∀ w'' : World, Below w'.heap.size w' w'' → w''.cell? ⟨eg, 0, none⟩ = some (.int .i64 4) ∧ w''.cell? ⟨eg, 1, none⟩ = some (.bool f.1) ∧ w''.cell? ⟨eg, 2, none⟩ = some (.int .u32 (f.2.1 : Int)) ∧ w''.cell? ⟨eg, 3, none⟩ = some (.bool f.2.2.1) ∧ w''.cell? ⟨eg, 4, none⟩ = some (.string d) ∧ w''.cell? ⟨eg, 5, none⟩ = some (.int .i64 71) ∧ w''.cell? ⟨eg, 6, none⟩ = some (.int .i64 7)) := fun w'' hb =>
                  ⟨(hb.cell (p := ⟨eg, 0, none⟩) eL).trans e0, (hb.cell (p := ⟨eg, 1, none⟩) eL).trans e1, (hb.cell (p := ⟨eg, 2, none⟩) eL).trans e2, (hb.cell (p := ⟨eg, 3, none⟩) eL).trans e3, (hb.cell (p := ⟨eg, 4, none⟩) eL).trans (by rw [HD.out]; exact e4), (hb.cell (p := ⟨eg, 5, none⟩) eL).trans e5, (hb.cell (p := ⟨eg, 6, none⟩) eL).trans e6⟩
                clear O' C' hk' e0 e1 e2 e3 e4 e5 e6 LF0 LF1 LF2 LF3 h1 h3 EQ2
                have hc3 : c = 31 := by have := HC31.out; omega
                subst hc3
                clear HC31 HFL ht31 hp j0
                go_wp2_with fail
                go_loopw [4, 7] (fun fl i wr => ∃ q : Nat, q ≤ 1 ∧ fl = .int .i64 (31 + (q : Int)) ∧ i = .int .i64 q ∧ Hid (Below w'.heap.size w' wr)) (fun _ i _ => 2 - (intOf i).toNat)
                case atStart => exact ⟨0, by decide, rfl, rfl, Below.refl _ _⟩
                case round =>
                  obtain ⟨q, hq, rfl, rfl, hB⟩ := hrel
                  have hE := HE.out _ hB.out
                  have LFq : Hid (Lies wr _ _ _ _ _) := LF.out.on hB.out
                  by_cases hq0 : q = 0
                  · subst hq0
                    have E0 := hE.1
                    clear hE
                    go_wp2_with fail
                    clear E0
                    refine Lw.wp_region_quiet_below (by kernel_rfl) (by kernel_rfl) ?_
                    repeat (first
                      | go_big_quiet_skip
                      | (go_big_quiet_want; go_big_quiet_op; go_big_quiet_on)
                      | (go_big_quiet_want; go_big_quiet_op; apply Exists.intro; refine ⟨fun _ hb' => ?_, ?_⟩; (first
                        | exact Lw.val_rfl _
                        | (simp [go_sem, (HE.out _ (below_joinK hB.out hb' hB.out.size)).2.2.2.2.2.1]; rfl)
                        | (simp [go_sem, (HE.out _ (below_joinK hB.out hb' hB.out.size)).2.1, (HE.out _ (below_joinK hB.out hb' hB.out.size)).2.2.1, (HE.out _ (below_joinK hB.out hb' hB.out.size)).2.2.2.1, (HE.out _ (below_joinK hB.out hb' hB.out.size)).2.2.2.2.1]; rfl)
                        | (simp [go_sem, (LFq.out.on hb').c0, (LFq.out.on hb').c1, (LFq.out.on hb').c2, (LFq.out.on hb').c3]; rfl)); go_big_quiet_on))
                    refine wpQuiet_nil ?_
                    intro w9 hb9
                    have hB9 : Hid (Below w'.heap.size w' w9) := below_joinK hB.out hb9 hB.out.size
                    have E0 := (HE.out _ hB9.out).1
                    clear hb9
                    go_wp2
                    go_roundw
                    case rel => exact ⟨1, by decide, rfl, rfl, hB9⟩
                    case measure => decide
                  · obtain rfl : q = 1 := by omega
                    have E6 := hE.2.2.2.2.2.2
                    clear hE
                    have LF0 := LFq.out.c0
                    have LF1 := LFq.out.c1
                    have LF2 := LFq.out.c2
                    have LF3 := LFq.out.c3
                    replace OM : Hid (OwnM At _ wr _ _) := OM.out.on S hB.out
                    replace hC : Hid (Ctx W _ wr) := hC.out.more hB.out
                    have hfd := cnt_field0
                    go_wp2_with fail
                    refine (HA _ OM.out hC.out).mono ?_
                    rintro e w5 ⟨rfl, O', C', hk'⟩
                    replace hC : Hid (Ctx W _ w5) := C'
                    replace OM : Hid (OwnM At _ w5 _ _) := O'
                    clear O' C' hk' HA LF0 LF1 LF2 LF3 E6
                    go_wp2_with fail
                    refine (am_drive S (v := 49) rfl OM.out hC.out).mono ?_
                    rintro e w' ⟨rfl, O', C', hk'⟩
                    replace hC : Hid (Ctx W _ w') := C'
                    replace OM : Hid (OwnM At _ w' _ _) := O'
                    clear O' C' hk'
                    go_wp2_with fail
                    refine (am_quiet S 48 (m' := Mm.offS f) rfl OM.out hC.out).mono ?_
                    rintro e w' ⟨sl, cp, rfl, O', C', hk'⟩
                    replace hC : Hid (Ctx W _ w') := C'
                    replace OM : Hid (OwnM At _ w' _ _) := O'
                    clear O' C' hk'
                    go_wp2_with fail
                    refine (am_counts S (a := 256) (b := 0) rfl OM.out hC.out).mono ?_
                    rintro e w' ⟨rfl, O', C', hk'⟩
                    replace hC : Hid (Ctx W _ w') := C'
                    replace OM : Hid (OwnM At _ w' _ _) := O'
                    clear O' C' hk'
                    go_wp2
                    go_ret
                    exact ⟨rfl, hC.out.below⟩
              · rw [if_neg t31] at hs9
                have EQ2 : Mm.sample (Mm.al f t (L - 9)) ((49 : UInt8) != 48) = (Mm.al f t (L - 8), [⟨4, f, 71⟩]) := hs9
                clear HNx HNi HPa HAs hs9 hd9
                go_wp2_with fail
                refine (am_idle S h1 OM.out hC.out).mono ?_
                rintro e w' ⟨rfl, O', C', hk'⟩
                replace hC : Hid (Ctx W _ w') := C'
                replace OM : Hid (OwnM At _ w' _ _) := O'
                replace LF : Hid (Lies w' _ _ _ _ _) := LF.out.kept hk' LFP.out
                try clear LF0 LF1 LF2 LF3
                have LF0 := LF.out.c0
                have LF1 := LF.out.c1
                have LF2 := LF.out.c2
                have LF3 := LF.out.c3
                clear O' C' hk'
                go_wp2_with fail
                refine (am_drive S h3 OM.out hC.out).mono ?_
                rintro e w' ⟨rfl, O', C', hk'⟩
                replace hC : Hid (Ctx W _ w') := C'
                replace OM : Hid (OwnM At _ w' _ _) := O'
                replace LF : Hid (Lies w' _ _ _ _ _) := LF.out.kept hk' LFP.out
                try clear LF0 LF1 LF2 LF3
                have LF0 := LF.out.c0
                have LF1 := LF.out.c1
                have LF2 := LF.out.c2
                have LF3 := LF.out.c3
                clear O' C' hk'
                go_wp2_with fail
                refine (am_one S 49 EQ2 OM.out hC.out).mono ?_
                rintro e w' ⟨eg, ecap, rfl, O', C', hk', ec1, ec2, eL, e0, e1, e2, e3, e4, e5⟩
                replace hC : Hid (Ctx W _ w') := C'
                replace OM : Hid (OwnM At _ w' _ _) := O'
                replace LF : Hid (Lies w' _ _ _ _ _) := LF.out.kept hk' LFP.out
                try clear LF0 LF1 LF2 LF3
                have LF0 := LF.out.c0
                have LF1 := LF.out.c1
                have LF2 := LF.out.c2
                have LF3 := LF.out.c3
                clear O' C' hk'
                have HE : Hid (∀ w'' : World, Below w'.heap.size w' w'' → w''.cell? ⟨eg, 0, none⟩ = some (.int .i64 4) ∧ w''.cell? ⟨eg, 1, none⟩ = some (.bool f.1) ∧ w''.cell? ⟨eg, 2, none⟩ = some (.int .u32 (f.2.1 : Int)) ∧ w''.cell? ⟨eg, 3, none⟩ = some (.bool f.2.2.1) ∧ w''.cell? ⟨eg, 4, none⟩ = some (.string d) ∧ w''.cell? ⟨eg, 5, none⟩ = some (.int .i64 71)) := fun w'' hb =>
                  ⟨(hb.cell (p := ⟨eg, 0, none⟩) eL).trans e0, (hb.cell (p := ⟨eg, 1, none⟩) eL).trans e1, (hb.cell (p := ⟨eg, 2, none⟩) eL).trans e2, (hb.cell (p := ⟨eg, 3, none⟩) eL).trans e3, (hb.cell (p := ⟨eg, 4, none⟩) eL).trans (by rw [HD.out]; exact e4), (hb.cell (p := ⟨eg, 5, none⟩) eL).trans e5⟩
                clear e0 e1 e2 e3 e4 e5 LF0 LF1 LF2 LF3 h1 h3 EQ2
                go_wp2_with fail
                go_loopw [4, 7] (fun fl i wr => ∃ q : Nat, q ≤ 1 ∧ fl = .int .i64 ((c : Int) + (q : Int)) ∧ i = .int .i64 q ∧ Hid (Below w'.heap.size w' wr)) (fun _ i _ => 2 - (intOf i).toNat)
                case atStart => exact ⟨0, by decide, by simp, rfl, Below.refl _ _⟩
                case round =>
                  obtain ⟨q, hq, rfl, rfl, hB⟩ := hrel
                  by_cases hq0 : q = 0
                  · subst hq0
                    have E0 := (HE.out _ hB.out).1
                    have LFq : Hid (Lies wr _ _ _ _ _) := LF.out.on hB.out
                    go_wp2_with fail
                    clear E0
                    refine Lw.wp_region_quiet_below (by kernel_rfl) (by kernel_rfl) ?_
                    repeat (first
                      | go_big_quiet_skip
                      | (go_big_quiet_want; go_big_quiet_op; go_big_quiet_on)
                      | (go_big_quiet_want; go_big_quiet_op; apply Exists.intro; refine ⟨fun _ hb' => ?_, ?_⟩; (first
                        | exact Lw.val_rfl _
                        | (simp [go_sem, (HE.out _ (below_joinK hB.out hb' hB.out.size)).2.2.2.2.2]; rfl)
                        | (simp [go_sem, (HE.out _ (below_joinK hB.out hb' hB.out.size)).2.1, (HE.out _ (below_joinK hB.out hb' hB.out.size)).2.2.1, (HE.out _ (below_joinK hB.out hb' hB.out.size)).2.2.2.1, (HE.out _ (below_joinK hB.out hb' hB.out.size)).2.2.2.2.1]; rfl)
                        | (simp [go_sem, (LFq.out.on hb').c0, (LFq.out.on hb').c1, (LFq.out.on hb').c2, (LFq.out.on hb').c3]; rfl)); go_big_quiet_on))
                    refine wpQuiet_nil ?_
                    intro w9 hb9
                    have hB9 : Hid (Below w'.heap.size w' w9) := below_joinK hB.out hb9 hB.out.size
                    have E0 := (HE.out _ hB9.out).1
                    clear hb9
                    go_wp2
                    go_roundw
                    case rel => exact ⟨1, by decide, rfl, rfl, hB9⟩
                    case measure => decide
                  · obtain rfl : q = 1 := by omega
                    replace OM : Hid (OwnM At _ wr _ _) := OM.out.on S hB.out
                    replace hC : Hid (Ctx W _ wr) := hC.out.more hB.out
                    replace LF : Hid (Lies wr _ _ _ _ _) := LF.out.on hB.out
                    go_wp2
                    go_roundw
                    case rel =>
                      have h := HM.out
                      have hcc := HC31.out
                      exact ⟨k + 1, c + 1, by omega, by go_num, by go_num, by omega, Or.inr ⟨t, L - 8, by omega, ht, by omega, by rw [HC31.out]; unfold fails; rw [if_pos (by omega)], fun h => absurd h t31, by rw [(Mm.pre_later f t (L - 8) (by omega)).1]; exact OM.out⟩, hC, LF⟩
                    case measure => simp [intOf]; omega
            · have EQ := HNx.out t j ht hj j9
              rw [if_neg j0] at EQ
              have h3 := sign_dv (Mm.drive (Mm.al f t j))
              have EQ2 : Mm.sample (Mm.al f t j) (Bm.sign (Mm.drive (Mm.al f t j)) != 48) = (if j = L + 8 then Mm.pre f (t + 1) 0 else Mm.al f t (j + 1), []) := by rw [bit_byte]; exact EQ
              clear HNx HNi HPa HAs EQ
              generalize Bm.sign (Mm.drive (Mm.al f t j)) = b at *
              go_wp2_with fail
              refine (am_idle S h1 OM.out hC.out).mono ?_
              rintro e w' ⟨rfl, O', C', hk'⟩
              replace hC : Hid (Ctx W _ w') := C'
              replace OM : Hid (OwnM At _ w' _ _) := O'
              replace LF : Hid (Lies w' _ _ _ _ _) := LF.out.kept hk' LFP.out
              try clear LF0 LF1 LF2 LF3
              have LF0 := LF.out.c0
              have LF1 := LF.out.c1
              have LF2 := LF.out.c2
              have LF3 := LF.out.c3
              clear O' C' hk'
              go_wp2_with fail
              refine (am_drive S h3 OM.out hC.out).mono ?_
              rintro e w' ⟨rfl, O', C', hk'⟩
              replace hC : Hid (Ctx W _ w') := C'
              replace OM : Hid (OwnM At _ w' _ _) := O'
              replace LF : Hid (Lies w' _ _ _ _ _) := LF.out.kept hk' LFP.out
              try clear LF0 LF1 LF2 LF3
              have LF0 := LF.out.c0
              have LF1 := LF.out.c1
              have LF2 := LF.out.c2
              have LF3 := LF.out.c3
              clear O' C' hk'
              go_wp2_with fail
              refine (am_quiet S b EQ2 OM.out hC.out).mono ?_
              rintro e w' ⟨sl, cp, rfl, O', C', hk'⟩
              replace hC : Hid (Ctx W _ w') := C'
              replace OM : Hid (OwnM At _ w' _ _) := O'
              replace LF : Hid (Lies w' _ _ _ _ _) := LF.out.kept hk' LFP.out
              try clear LF0 LF1 LF2 LF3
              have LF0 := LF.out.c0
              have LF1 := LF.out.c1
              have LF2 := LF.out.c2
              have LF3 := LF.out.c3
              clear O' C' hk'
              clear h1 h3 EQ2
              clear LF0 LF1 LF2 LF3
              go_wp2_with fail
              go_loopw [4, 7] (fun fl i wr => fl = .int .i64 (c : Int) ∧ i = .int .i64 0 ∧ Hid (OwnM At (fun g => w2.heap.size ≤ g) wr p (if j = L + 8 then Mm.pre f (t + 1) 0 else Mm.al f t (j + 1))) ∧ Hid (Ctx W (fun g => w2.heap.size ≤ g) wr) ∧ Hid (Lies wr W.heap.size f.1 f.2.1 f.2.2.1 d)) (fun _ _ _ => 0)
              case atStart => exact ⟨rfl, rfl, OM, hC, LF⟩
              case round =>
                clear OM hC LF
                obtain ⟨rfl, rfl, OM, hC, LF⟩ := hrel
                go_wp2
                go_roundw
                case rel => exact (by
                  have h := HM.out
                  by_cases h8 : j = L + 8
                  · rw [if_pos h8] at OM
                    have t31 : t ≠ 31 := fun q => by have := ht31 q; omega
                    exact ⟨k + 1, c, by omega, by go_num, rfl, hc, Or.inr ⟨t + 1, 0, by omega, by omega, by omega, by rw [HFL.out]; unfold fails; rw [if_pos (by omega), if_neg (by omega)], fun _ => by omega, OM.out⟩, hC, LF⟩
                  · rw [if_neg h8] at OM
                    exact ⟨k + 1, c, by omega, by go_num, rfl, hc, Or.inr ⟨t, j + 1, by omega, ht, by omega, by rw [HFL.out]; unfold fails; by_cases q : L - 9 < j; rw [if_pos q, if_pos (by omega)]; rw [if_neg q, if_neg (by omega)], fun q => by have := ht31 q; omega, by rw [(Mm.pre_later f t (j + 1) (Nat.succ_ne_zero j)).1]; exact OM.out⟩, hC, LF⟩)
                case measure => simp [intOf]; omega
theorem walkA (S : MacSpec At) (HK : AckSpec) (HLn : LenSpec) (x : Bool) (n0 : Int) (r : Bool) (d : ByteArray) (w0 : (Lit.int .u32 n0).wf = true) (W : World) (hT : Tab W) :
    Calls Tryd.prog 5 #[.agg #[.bool x, .int .u32 n0, .bool r, .string d]] W fun e w' => e = .returned (.bool true) ∧ Below W.heap.size W w' := by
  obtain ⟨n, rfl, hn⟩ := u32_nat w0
  exact walkF S HK HLn (x, n, r, d.data.toList) d rfl hn W hT
end Go.Proofs.YthappkhiiopfgaaDoor.macAlone
