/- MacPassive: who has sent badly sixteen times flags by 1: the others don't see it; no condition. -/
import Derived.Test.YthappkhiiopfgabDoorMa
import Derived.ProofKit
import Derived.OpenShut
namespace Go.Proofs.YthappkhiiopfgabDoor.macPassive
open Go.ChangeShapes Go.WideShapes Go.ChangeAt Go.RowKit
set_option linter.unusedVariables false
variable {At : World → Nat → (Nat → Prop) → Mm.St → Prop}
def LenSpec : Prop := ∀ (f : Cm.Fr) (w : World), Tab w → f.2.1 < 4294967296 → Calls Tryd.prog 8 #[frV f] w fun e w' => e = .returned (.int .i64 ((Cm.enc f.1 f.2.1 f.2.2.1 f.2.2.2).length : Int)) ∧ Below w.heap.size w w'
theorem enc_row (f : Cm.Fr) (hf : Mm.isFr f = true) : Cm.enc f.1 f.2.1 f.2.2.1 f.2.2.2 = Mm.outB f := by
  unfold Cm.enc
  have : Fm.isF f.1 f.2.1 f.2.2.1 f.2.2.2 = true := hf
  rw [this]
  rfl
theorem enc_none (f : Cm.Fr) (hf : Mm.isFr f = false) : Cm.enc f.1 f.2.1 f.2.2.1 f.2.2.2 = [] := by
  unfold Cm.enc
  have : Fm.isF f.1 f.2.1 f.2.2.1 f.2.2.2 = false := hf
  rw [this]
  rfl
theorem sign_dv (b : Bool) : (if b then (49 : Int) else 48) = ((Bm.sign b).toNat : Int) := by cases b <;> rfl
/-- How often it failed. -/
def fails (L t j : Nat) : Nat := if L - 9 < j then t + 1 else t
theorem flag_drive (f : Cm.Fr) (hf : Mm.isFr f = true) (t q : Nat) (ht : t < 20) (hq : q < 6) : Mm.drive (Mm.al f t ((Mm.outB f).length - 8 + q)) = decide (15 ≤ t) := by
  obtain ⟨hL, hL2⟩ := Mm.out_len hf
  unfold Mm.al
  rw [if_neg (by omega), if_neg (by omega), if_pos (by omega)]
  show Km.pasC (8 * ((t : Int) + 1)) 0 = _
  unfold Km.pasC Km.offC
  rw [Bool.eq_iff_iff]
  simp
  omega
set_option maxRecDepth 100000 in
set_option maxHeartbeats 4000000 in
theorem walkF (S : MacSpec At) (HK : AckSpec) (HLn : LenSpec) (f : Cm.Fr) (d : ByteArray) (hd : d = ⟨f.2.2.2.toArray⟩) (hn : f.2.1 < 4294967296) (W : World) (hT : Tab W) :
    Calls Tryd.prog 3 #[.agg #[.bool f.1, .int .u32 (f.2.1 : Int), .bool f.2.2.1, .string d]] W fun e w' => e = .returned (.bool true) ∧ Below W.heap.size W w' := by
  have hdl : d.size = f.2.2.2.length := by rw [hd]; simp [ByteArray.size]
  have LF : Hid (Lies (W.alloc (.cells #[.bool f.1, .int .u32 (f.2.1 : Int), .bool f.2.2.1, .string d] 24)) W.heap.size f.1 f.2.1 f.2.2.1 d) := Lies.new W _ _ _ _
  have hk := known7_any S HK _ (hT.alloc (.cells #[.bool f.1, .int .u32 (f.2.1 : Int), .bool f.2.2.1, .string d] 24))
  have HT : Hid (Tab W) := hT
  have HLn' : Hid (∀ w, Tab w → Calls Tryd.prog 8 #[.agg #[.bool f.1, .int .u32 (f.2.1 : Int), .bool f.2.2.1, .string d]] w fun e w' => e = .returned (.int .i64 ((Cm.enc f.1 f.2.1 f.2.2.1 f.2.2.2).length : Int)) ∧ Below w.heap.size w w') := fun w hT => by rw [hd]; exact HLn f w hT hn
  have HAs : Hid (∀ (P : Nat → Prop) (w : World) (p : Nat) (m m' : Mm.St) (k : Nat), Mm.ask m f = (k, m') → f.2.2.2.length ≤ 1000 → OwnM At P w p m → Ctx W P w → Calls Tryd.prog 11 #[bptr p, .agg #[.bool f.1, .int .u32 (f.2.1 : Int), .bool f.2.2.1, .string d]] w fun e w' => e = .returned (.int .i64 (k : Int)) ∧ OwnM At P w' p m' ∧ Ctx W P w' ∧ Kept P w w') := fun P w p m m' k hm h2 h hC => by rw [hd]; exact am_ask S f hm hn h2 h hC
  have HD : Hid (d = ⟨f.2.2.2.toArray⟩) := hd
  clear hT HK HLn hd hn
  go_enter Tryd.func3, Tryd.ntmps3
  go_wp2_with fail
  refine hk.mono ?_
  rintro e w1 ⟨rfl, hb1⟩
  replace LF : Hid (Lies w1 _ _ _ _ _) := LF.out.on hb1
  have hA : Hid (Below W.heap.size W w1) := below_joinK ((Below.refl _ _).alloc (Nat.le_refl _) _) hb1 (by simp)
  clear hk hb1
  have LF0 := LF.out.c0
  have LF1 := LF.out.c1
  have LF2 := LF.out.c2
  have LF3 := LF.out.c3
  by_cases hlong : 20 < d.size
  · clear HLn' HAs
    go_wp2
    go_ret
    exact ⟨rfl, hA.out⟩
  · go_wp2_with fail
    refine (HLn'.out _ (HT.out.below hA.out)).mono ?_
    rintro e w2 ⟨rfl, hb2⟩
    cases hf : Mm.isFr f
    · rw [enc_none f hf]
      have hA2 : Hid (Below W.heap.size W w2) := hA.out.trans (hb2.mono hA.out.size)
      clear hb2 HLn' HAs LF0 LF1 LF2 LF3 LF
      go_wp2
      go_ret
      exact ⟨rfl, hA2.out⟩
    · rw [enc_row f hf]
      obtain ⟨hL1, hL2⟩ := Mm.out_len hf
      have hol : (((Mm.outB f).length : Int) == 0) = false := by rw [beq_eq_false_iff_ne]; omega
      have hA2 : Hid (Below W.heap.size W w2) := hA.out.trans (hb2.mono hA.out.size)
      replace LF : Hid (Lies w2 _ _ _ _ _) := LF.out.on hb2
      have hC : Hid (Ctx W (fun g => w2.heap.size ≤ g) w2) := Ctx.from HT.out hA2.out
      have LFP : Hid (¬ (fun g => w2.heap.size ≤ g) W.heap.size) := Nat.not_le.2 LF.out.lt
      have HNx : Hid (∀ t j, t < 32 → j ≤ (Mm.outB f).length + 8 → j ≠ (Mm.outB f).length - 9 → Mm.sample (Mm.al f t j) (Mm.drive (Mm.al f t j)) = (if j = (Mm.outB f).length + 8 then Mm.pre f (t + 1) 0 else Mm.al f t (j + 1), if j = 0 then [⟨6, Cm.noF, 0⟩] else [])) := fun t j => Mm.al_next hf t j
      have HNi : Hid (∀ t, t < 32 → Mm.drive (Mm.al f t ((Mm.outB f).length - 9)) = true ∧ Mm.sample (Mm.al f t ((Mm.outB f).length - 9)) true = if t = 31 then (Mm.offS f, [⟨4, f, 71⟩, ⟨7, Cm.noF, 0⟩]) else (Mm.al f t ((Mm.outB f).length - 8), [⟨4, f, 71⟩])) := fun t => Mm.al_nine hf t
      have HFd : Hid (∀ t q, t < 20 → q < 6 → Mm.drive (Mm.al f t ((Mm.outB f).length - 8 + q)) = decide (15 ≤ t)) := fun t q => flag_drive f hf t q
      have HPa : Hid (∀ t, Mm.ask (Mm.pre f t 0) f = (0, Mm.al f t 0)) := fun t => Mm.pre_ask hf t
      clear hb2 HLn' LF0 LF1 LF2 LF3 hA hA2 HT
      generalize (Mm.outB f).length = L at *
      have LF0 := LF.out.c0
      have LF1 := LF.out.c1
      have LF2 := LF.out.c2
      have LF3 := LF.out.c3
      go_wp2_with fail
      refine (am_new S hC.out).mono ?_
      rintro e w' ⟨p, rfl, O', C', hk'⟩
      replace hC : Hid (Ctx W _ w') := C'
      have OM : Hid (OwnM At _ w' _ _) := O'
      replace LF : Hid (Lies w' _ _ _ _ _) := LF.out.kept hk' LFP.out
      try clear LF0 LF1 LF2 LF3
      have LF0 := LF.out.c0
      have LF1 := LF.out.c1
      have LF2 := LF.out.c2
      have LF3 := LF.out.c3
      clear O' C' hk'
      clear LF0 LF1 LF2 LF3
      go_wp2_with fail
      go_loopw [4, 5, 6] (fun fl fz i wr => ∃ (k c : Nat) (z : Int), k < 6000 ∧ i = .int .i64 k ∧ fl = .int .i64 c ∧ fz = .int .i64 z ∧ c ≤ 20 ∧ Hid ((k < 3 ∧ c = 0 ∧ OwnM At (fun g => w2.heap.size ≤ g) wr p (Mm.newS k)) ∨ ∃ t j, k = 3 + t * (L + 3) + (if L - 9 < j then j - 6 else j) ∧ t < 20 ∧ j ≤ L + 8 ∧ (j ≤ L - 9 ∨ L - 2 ≤ j) ∧ c = fails L t j ∧ (t = 19 → j ≤ L - 2) ∧ OwnM At (fun g => w2.heap.size ≤ g) wr p (Mm.pre f t j)) ∧ Hid (Ctx W (fun g => w2.heap.size ≤ g) wr) ∧ Hid (Lies wr W.heap.size f.1 f.2.1 f.2.2.1 d)) (fun _ _ i _ => 6000 - (intOf i).toNat)
      case atStart => exact ⟨0, 0, 0, by decide, rfl, rfl, rfl, by decide, Or.inl ⟨by decide, rfl, OM.out⟩, hC, LF⟩
      case round =>
        clear OM hC LF
        obtain ⟨k, c, z, hk, rfl, rfl, rfl, hc, HS, hC, LF⟩ := hrel
        by_cases c20 : c = 20
        · have HC2 : Hid (c = 20) := c20
          have g1 : decide ((c : Int) < 20) = false := decide_eq_false (by omega)
          have g2 : ((c : Int) == 20) = true := by rw [beq_iff_eq]; omega
          clear HNx HNi HPa HAs HFd HS c20
          go_wp2
          go_ret
          exact ⟨rfl, hC.out.below⟩
        have gc : decide ((c : Int) < 20) = true := decide_eq_true (by omega)
        have LF0 := LF.out.c0
        have LF1 := LF.out.c1
        have LF2 := LF.out.c2
        have LF3 := LF.out.c3
        rcases HS.out with ⟨hk3, hc0, O⟩ | ⟨t, j, hkj, ht, hj, hjj, hfl, ht31, O⟩
        · have OM : Hid (OwnM At _ wr p (Mm.newS k)) := O
          have HC0 : Hid (c = 0) := hc0
          clear HS O HNx HNi HPa HAs HFd hc0 c20
          have h1 : decide ((Mm.newS k).ph = .idle) = false := by unfold Mm.newS; rw [if_neg (by omega)]; rfl
          have h2 : (if Mm.drive (Mm.newS k) then (49 : Int) else 48) = 49 := by rw [show Mm.newS k = Mm.pz (3 - k) false Cm.noF [] false 0 0 from by unfold Mm.newS; rw [if_neg (by omega)]]; rfl
          go_wp2_with fail
          refine (am_idle S h1 OM.out hC.out).mono ?_
          rintro e w' ⟨rfl, O', C', hk'⟩
          replace hC : Hid (Ctx W _ w') := C'
          replace OM : Hid (OwnM At _ w' _ _) := O'
          replace LF : Hid (Lies w' _ _ _ _ _) := LF.out.kept hk' LFP.out
          try clear LF0 LF1 LF2 LF3
          have LF0 := LF.out.c0
          have LF1 := LF.out.c1
          have LF2 := LF.out.c2
          have LF3 := LF.out.c3
          clear O' C' hk'
          go_wp2_with fail
          refine (am_drive S h2 OM.out hC.out).mono ?_
          rintro e w' ⟨rfl, O', C', hk'⟩
          replace hC : Hid (Ctx W _ w') := C'
          replace OM : Hid (OwnM At _ w' _ _) := O'
          replace LF : Hid (Lies w' _ _ _ _ _) := LF.out.kept hk' LFP.out
          try clear LF0 LF1 LF2 LF3
          have LF0 := LF.out.c0
          have LF1 := LF.out.c1
          have LF2 := LF.out.c2
          have LF3 := LF.out.c3
          clear O' C' hk'
          go_wp2_with fail
          refine (am_quiet S 49 (Mm.newS_one k) OM.out hC.out).mono ?_
          rintro e w' ⟨sl, cp, rfl, O', C', hk'⟩
          replace hC : Hid (Ctx W _ w') := C'
          replace OM : Hid (OwnM At _ w' _ _) := O'
          replace LF : Hid (Lies w' _ _ _ _ _) := LF.out.kept hk' LFP.out
          try clear LF0 LF1 LF2 LF3
          have LF0 := LF.out.c0
          have LF1 := LF.out.c1
          have LF2 := LF.out.c2
          have LF3 := LF.out.c3
          clear O' C' hk'
          clear h1 h2 LF0 LF1 LF2 LF3
          go_wp2
          go_roundw
          case rel => exact ⟨k + 1, c, z, by omega, by go_num, rfl, rfl, hc, (by by_cases h : k + 1 < 3; exact Or.inl ⟨h, HC0.out, OM.out⟩; exact Or.inr ⟨0, 0, by rw [if_neg (by omega)]; omega, by decide, by omega, Or.inl (by omega), by rw [HC0.out]; unfold fails; rw [if_neg (by omega)], (fun h => by cases h), by rw [Mm.newS_idle (by omega)] at OM; exact OM.out⟩), hC, LF⟩
          case measure => simp [intOf]; omega
        · have OM : Hid (OwnM At _ wr p (Mm.pre f t j)) := O
          have hmul : t * (L + 3) ≤ 19 * 203 := Nat.mul_le_mul (by omega) (by omega)
          have hmu2 : (t + 1) * (L + 3) = t * (L + 3) + (L + 3) := Nat.succ_mul t (L + 3)
          have HM : Hid (k = 3 + t * (L + 3) + (if L - 9 < j then j - 6 else j) ∧ t * (L + 3) ≤ 19 * 203 ∧ (t + 1) * (L + 3) = t * (L + 3) + (L + 3)) := ⟨hkj, hmul, hmu2⟩
          have HFL : Hid (c = fails L t j) := hfl
          have HNc : Hid (c ≠ 20) := c20
          clear HS O hkj hmul hmu2 hfl c20
          by_cases j0 : j = 0
          · subst j0
            obtain ⟨h1, _⟩ := Mm.pre_idle f t
            have HA := fun w hO hC => HAs.out (fun g => w2.heap.size ≤ g) w p _ _ 0 (HPa.out t) (by omega) hO hC
            have EQ := HNx.out t 0 (by omega) (by omega) (by omega)
            rw [if_neg (by omega), if_pos rfl] at EQ
            have h3 : (if Mm.drive (Mm.al f t 0) then (49 : Int) else 48) = 48 := rfl
            have EQ2 : Mm.sample (Mm.al f t 0) ((48 : UInt8) != 48) = (Mm.al f t (0 + 1), [⟨6, Cm.noF, 0⟩]) := EQ
            clear HNx HNi HPa HAs HFd EQ
            go_wp2_with fail
            refine (am_idle S h1 OM.out hC.out).mono ?_
            rintro e w' ⟨rfl, O', C', hk'⟩
            replace hC : Hid (Ctx W _ w') := C'
            replace OM : Hid (OwnM At _ w' _ _) := O'
            replace LF : Hid (Lies w' _ _ _ _ _) := LF.out.kept hk' LFP.out
            try clear LF0 LF1 LF2 LF3
            have LF0 := LF.out.c0
            have LF1 := LF.out.c1
            have LF2 := LF.out.c2
            have LF3 := LF.out.c3
            clear O' C' hk'
            go_wp2_with fail
            refine (HA _ OM.out hC.out).mono ?_
            rintro e w' ⟨rfl, O', C', hk'⟩
            replace hC : Hid (Ctx W _ w') := C'
            replace OM : Hid (OwnM At _ w' _ _) := O'
            replace LF : Hid (Lies w' _ _ _ _ _) := LF.out.kept hk' LFP.out
            clear O' C' hk' HA h1 LF0 LF1 LF2 LF3
            go_wp2_with fail
            refine (am_drive S h3 OM.out hC.out).mono ?_
            rintro e w' ⟨rfl, O', C', hk'⟩
            replace hC : Hid (Ctx W _ w') := C'
            replace OM : Hid (OwnM At _ w' _ _) := O'
            replace LF : Hid (Lies w' _ _ _ _ _) := LF.out.kept hk' LFP.out
            try clear LF0 LF1 LF2 LF3
            have LF0 := LF.out.c0
            have LF1 := LF.out.c1
            have LF2 := LF.out.c2
            have LF3 := LF.out.c3
            clear O' C' hk'
            go_wp2_with fail
            refine (am_one S 48 EQ2 OM.out hC.out).mono ?_
            rintro e w' ⟨eg, ecap, rfl, O', C', hk', ec1, ec2, eL, e0, e1, e2, e3, e4, e5⟩
            replace hC : Hid (Ctx W _ w') := C'
            replace OM : Hid (OwnM At _ w' _ _) := O'
            replace LF : Hid (Lies w' _ _ _ _ _) := LF.out.kept hk' LFP.out
            try clear LF0 LF1 LF2 LF3
            have LF0 := LF.out.c0
            have LF1 := LF.out.c1
            have LF2 := LF.out.c2
            have LF3 := LF.out.c3
            clear O' C' hk'
            have e0' : w'.cell? ⟨eg, 0, none⟩ = some (.int .i64 6) := e0
            clear e0 e1 e2 e3 e4 e5 EQ2 h3 LF0 LF1 LF2 LF3
            go_wp2
            go_roundw
            case rel =>
              have h := HM.out
              rw [if_neg (by omega)] at h
              exact ⟨k + 1, c, z, by omega, by go_num, rfl, rfl, hc, Or.inr ⟨t, 1, by rw [if_neg (by omega)]; omega, ht, by omega, Or.inl (by omega), by rw [HFL.out]; unfold fails; rw [if_neg (by omega), if_neg (by omega)], (fun _ => by omega), by rw [(Mm.pre_later f t 1 (by decide)).1]; exact OM.out⟩, hC, LF⟩
            case measure => simp [intOf]; omega
          · obtain ⟨hp, h1⟩ := Mm.pre_later f t j j0
            rw [hp] at OM
            by_cases j9 : j = L - 9
            · subst j9
              obtain ⟨hd9, hs9⟩ := HNi.out t (by omega)
              have h3 : (if Mm.drive (Mm.al f t (L - 9)) then (49 : Int) else 48) = 49 := by rw [hd9]; rfl
              have HC31 : Hid (c = t) := by show c = t; rw [HFL.out]; unfold fails; rw [if_neg (by omega)]
              rw [if_neg (by omega)] at hs9
              have EQ2 : Mm.sample (Mm.al f t (L - 9)) ((49 : UInt8) != 48) = (Mm.al f t (L - 8 + 0), [⟨4, f, 71⟩]) := hs9
              have HIn : Hid (∀ q, q < 6 → Mm.sample (Mm.al f t (L - 8 + q)) (Mm.drive (Mm.al f t (L - 8 + q))) = (Mm.al f t (L - 8 + (q + 1)), [])) := fun q hq => by
                have h := HNx.out t (L - 8 + q) (by omega) (by omega) (by omega)
                rw [if_neg (by omega), if_neg (by omega)] at h
                exact h
              have HFq := HFd.out
              clear HNx HNi HPa HAs HFd hs9 hd9
              have HFd : Hid (_) := HFq
              clear HFq
              go_wp2_with fail
              refine (am_idle S h1 OM.out hC.out).mono ?_
              rintro e w' ⟨rfl, O', C', hk'⟩
              replace hC : Hid (Ctx W _ w') := C'
              replace OM : Hid (OwnM At _ w' _ _) := O'
              replace LF : Hid (Lies w' _ _ _ _ _) := LF.out.kept hk' LFP.out
              try clear LF0 LF1 LF2 LF3
              have LF0 := LF.out.c0
              have LF1 := LF.out.c1
              have LF2 := LF.out.c2
              have LF3 := LF.out.c3
              clear O' C' hk'
              go_wp2_with fail
              refine (am_drive S h3 OM.out hC.out).mono ?_
              rintro e w' ⟨rfl, O', C', hk'⟩
              replace hC : Hid (Ctx W _ w') := C'
              replace OM : Hid (OwnM At _ w' _ _) := O'
              replace LF : Hid (Lies w' _ _ _ _ _) := LF.out.kept hk' LFP.out
              try clear LF0 LF1 LF2 LF3
              have LF0 := LF.out.c0
              have LF1 := LF.out.c1
              have LF2 := LF.out.c2
              have LF3 := LF.out.c3
              clear O' C' hk'
              go_wp2_with fail
              refine (am_one S 49 EQ2 OM.out hC.out).mono ?_
              rintro e w' ⟨eg, ecap, rfl, O', C', hk', ec1, ec2, eL, e0, e1, e2, e3, e4, e5⟩
              replace hC : Hid (Ctx W _ w') := C'
              replace OM : Hid (OwnM At _ w' _ _) := O'
              replace LF : Hid (Lies w' _ _ _ _ _) := LF.out.kept hk' LFP.out
              try clear LF0 LF1 LF2 LF3
              have LF0 := LF.out.c0
              have LF1 := LF.out.c1
              have LF2 := LF.out.c2
              have LF3 := LF.out.c3
              clear O' C' hk'
              have e0' : w'.cell? ⟨eg, 0, none⟩ = some (.int .i64 4) := e0
              clear e0 e1 e2 e3 e4 e5 LF0 LF1 LF2 LF3 h1 h3 EQ2
              go_wp2_with fail
              clear e0'
              go_loopw [5, 8] (fun fz i wr => ∃ q : Nat, q ≤ 6 ∧ i = .int .i64 q ∧ fz = .int .i64 (if 15 ≤ t then 0 else (q : Int)) ∧ Hid (OwnM At (fun g => w2.heap.size ≤ g) wr p (Mm.al f t (L - 8 + q))) ∧ Hid (Ctx W (fun g => w2.heap.size ≤ g) wr) ∧ Hid (Lies wr W.heap.size f.1 f.2.1 f.2.2.1 d)) (fun _ i _ => 6 - (intOf i).toNat)
              case atStart => exact ⟨0, by decide, rfl, by simp, OM, hC, LF⟩
              case round =>
                clear OM hC LF
                obtain ⟨q, hq, rfl, rfl, OM, hC, LF⟩ := hrel
                by_cases hq6 : q < 6
                · have EQ := HIn.out q hq6
                  have hdq := HFd.out t q ht hq6
                  by_cases t15 : 15 ≤ t
                  · rw [decide_eq_true t15] at hdq
                    rw [hdq] at EQ
                    have h3 : (if Mm.drive (Mm.al f t (L - 8 + q)) then (49 : Int) else 48) = 49 := by rw [hdq]; rfl
                    have EQ3 : Mm.sample (Mm.al f t (L - 8 + q)) ((49 : UInt8) != 48) = (Mm.al f t (L - 8 + (q + 1)), []) := EQ
                    rw [if_pos t15]
                    clear HIn HFd EQ hdq
                    go_wp2_with fail
                    refine (am_drive S h3 OM.out hC.out).mono ?_
                    rintro e w' ⟨rfl, O', C', hk'⟩
                    replace hC : Hid (Ctx W _ w') := C'
                    replace OM : Hid (OwnM At _ w' _ _) := O'
                    replace LF : Hid (Lies w' _ _ _ _ _) := LF.out.kept hk' LFP.out
                    try clear LF0 LF1 LF2 LF3
                    have LF0 := LF.out.c0
                    have LF1 := LF.out.c1
                    have LF2 := LF.out.c2
                    have LF3 := LF.out.c3
                    clear O' C' hk'
                    go_wp2_with fail
                    refine (am_drive S h3 OM.out hC.out).mono ?_
                    rintro e w' ⟨rfl, O', C', hk'⟩
                    replace hC : Hid (Ctx W _ w') := C'
                    replace OM : Hid (OwnM At _ w' _ _) := O'
                    replace LF : Hid (Lies w' _ _ _ _ _) := LF.out.kept hk' LFP.out
                    try clear LF0 LF1 LF2 LF3
                    have LF0 := LF.out.c0
                    have LF1 := LF.out.c1
                    have LF2 := LF.out.c2
                    have LF3 := LF.out.c3
                    clear O' C' hk'
                    go_wp2_with fail
                    refine (am_quiet S 49 EQ3 OM.out hC.out).mono ?_
                    rintro e w' ⟨sl, cp, rfl, O', C', hk'⟩
                    replace hC : Hid (Ctx W _ w') := C'
                    replace OM : Hid (OwnM At _ w' _ _) := O'
                    replace LF : Hid (Lies w' _ _ _ _ _) := LF.out.kept hk' LFP.out
                    try clear LF0 LF1 LF2 LF3
                    have LF0 := LF.out.c0
                    have LF1 := LF.out.c1
                    have LF2 := LF.out.c2
                    have LF3 := LF.out.c3
                    clear O' C' hk'
                    clear h3 EQ3 LF0 LF1 LF2 LF3
                    go_wp2
                    go_roundw
                    case rel => exact ⟨q + 1, by omega, by go_num, by rw [if_pos t15], OM, hC, LF⟩
                    case measure => simp [intOf]; omega
                  · rw [decide_eq_false t15] at hdq
                    rw [hdq] at EQ
                    have h3 : (if Mm.drive (Mm.al f t (L - 8 + q)) then (49 : Int) else 48) = 48 := by rw [hdq]; rfl
                    have EQ3 : Mm.sample (Mm.al f t (L - 8 + q)) ((48 : UInt8) != 48) = (Mm.al f t (L - 8 + (q + 1)), []) := EQ
                    rw [if_neg t15]
                    clear HIn HFd EQ hdq
                    go_wp2_with fail
                    refine (am_drive S h3 OM.out hC.out).mono ?_
                    rintro e w' ⟨rfl, O', C', hk'⟩
                    replace hC : Hid (Ctx W _ w') := C'
                    replace OM : Hid (OwnM At _ w' _ _) := O'
                    replace LF : Hid (Lies w' _ _ _ _ _) := LF.out.kept hk' LFP.out
                    try clear LF0 LF1 LF2 LF3
                    have LF0 := LF.out.c0
                    have LF1 := LF.out.c1
                    have LF2 := LF.out.c2
                    have LF3 := LF.out.c3
                    clear O' C' hk'
                    go_wp2_with fail
                    refine (am_drive S h3 OM.out hC.out).mono ?_
                    rintro e w' ⟨rfl, O', C', hk'⟩
                    replace hC : Hid (Ctx W _ w') := C'
                    replace OM : Hid (OwnM At _ w' _ _) := O'
                    replace LF : Hid (Lies w' _ _ _ _ _) := LF.out.kept hk' LFP.out
                    try clear LF0 LF1 LF2 LF3
                    have LF0 := LF.out.c0
                    have LF1 := LF.out.c1
                    have LF2 := LF.out.c2
                    have LF3 := LF.out.c3
                    clear O' C' hk'
                    go_wp2_with fail
                    refine (am_quiet S 48 EQ3 OM.out hC.out).mono ?_
                    rintro e w' ⟨sl, cp, rfl, O', C', hk'⟩
                    replace hC : Hid (Ctx W _ w') := C'
                    replace OM : Hid (OwnM At _ w' _ _) := O'
                    replace LF : Hid (Lies w' _ _ _ _ _) := LF.out.kept hk' LFP.out
                    try clear LF0 LF1 LF2 LF3
                    have LF0 := LF.out.c0
                    have LF1 := LF.out.c1
                    have LF2 := LF.out.c2
                    have LF3 := LF.out.c3
                    clear O' C' hk'
                    clear h3 EQ3 LF0 LF1 LF2 LF3
                    go_wp2
                    go_roundw
                    case rel => exact ⟨q + 1, by omega, by go_num, by rw [if_neg t15]; go_num, OM, hC, LF⟩
                    case measure => simp [intOf]; omega
                · have hqq : q = 6 := by omega
                  have OM2 : Hid (OwnM At (fun g => w2.heap.size ≤ g) wr p (Mm.al f t (L - 2))) := by rw [show L - 2 = L - 8 + q by omega]; exact OM
                  have HR : Hid (∃ (k' c' : Nat), k' = k + 1 ∧ k' < 6000 ∧ c' = c + 1 ∧ c' ≤ 20 ∧ ((k' < 3 ∧ c' = 0 ∧ OwnM At (fun g => w2.heap.size ≤ g) wr p (Mm.newS k')) ∨ ∃ t j, k' = 3 + t * (L + 3) + (if L - 9 < j then j - 6 else j) ∧ t < 20 ∧ j ≤ L + 8 ∧ (j ≤ L - 9 ∨ L - 2 ≤ j) ∧ c' = fails L t j ∧ (t = 19 → j ≤ L - 2) ∧ OwnM At (fun g => w2.heap.size ≤ g) wr p (Mm.pre f t j))) := by
                    have h := HM.out
                    rw [if_neg (by omega)] at h
                    have hcc := HC31.out
                    refine ⟨k + 1, c + 1, rfl, by omega, rfl, by omega, Or.inr ⟨t, L - 2, by rw [if_pos (by omega)]; omega, ht, by omega, Or.inr (Nat.le_refl _), by rw [HC31.out]; unfold fails; rw [if_pos (by omega)], (fun _ => Nat.le_refl _), ?_⟩⟩
                    rw [(Mm.pre_later f t (L - 2) (by omega)).1]
                    exact OM2.out
                  have ct := HC31.out
                  by_cases t15 : 15 ≤ t
                  · rw [if_pos t15]
                    have g3 : decide ((c : Int) + 1 < 16) = false := decide_eq_false (by omega)
                    clear HIn HFd OM OM2 HC31 ct hqq
                    go_wp2
                    go_roundw
                    case rel =>
                      obtain ⟨k', c', rfl, h1, rfl, h2, h3⟩ := HR.out
                      exact ⟨k + 1, c + 1, 0, h1, by go_num, by go_num, rfl, h2, h3, hC, LF⟩
                    case measure => simp [intOf]; omega
                  · rw [if_neg t15]
                    have g3 : decide ((c : Int) + 1 < 16) = true := decide_eq_true (by omega)
                    have g4 : ((q : Int) == 6) = true := by rw [beq_iff_eq]; omega
                    have g5 : ((q : Int) != 6) = false := by rw [bne_eq_false_iff_eq]; omega
                    clear HIn HFd OM OM2 HC31 ct hqq
                    go_wp2
                    go_roundw
                    case rel =>
                      obtain ⟨k', c', rfl, h1, rfl, h2, h3⟩ := HR.out
                      exact ⟨k + 1, c + 1, (q : Int), h1, by go_num, by go_num, rfl, h2, h3, hC, LF⟩
                    case measure => simp [intOf]; omega
            · have EQ := HNx.out t j (by omega) hj j9
              rw [if_neg j0] at EQ
              have h3 := sign_dv (Mm.drive (Mm.al f t j))
              have EQ2 : Mm.sample (Mm.al f t j) (Bm.sign (Mm.drive (Mm.al f t j)) != 48) = (if j = L + 8 then Mm.pre f (t + 1) 0 else Mm.al f t (j + 1), []) := by rw [bit_byte]; exact EQ
              clear HNx HNi HPa HAs HFd EQ
              generalize Bm.sign (Mm.drive (Mm.al f t j)) = b at *
              go_wp2_with fail
              refine (am_idle S h1 OM.out hC.out).mono ?_
              rintro e w' ⟨rfl, O', C', hk'⟩
              replace hC : Hid (Ctx W _ w') := C'
              replace OM : Hid (OwnM At _ w' _ _) := O'
              replace LF : Hid (Lies w' _ _ _ _ _) := LF.out.kept hk' LFP.out
              try clear LF0 LF1 LF2 LF3
              have LF0 := LF.out.c0
              have LF1 := LF.out.c1
              have LF2 := LF.out.c2
              have LF3 := LF.out.c3
              clear O' C' hk'
              go_wp2_with fail
              refine (am_drive S h3 OM.out hC.out).mono ?_
              rintro e w' ⟨rfl, O', C', hk'⟩
              replace hC : Hid (Ctx W _ w') := C'
              replace OM : Hid (OwnM At _ w' _ _) := O'
              replace LF : Hid (Lies w' _ _ _ _ _) := LF.out.kept hk' LFP.out
              try clear LF0 LF1 LF2 LF3
              have LF0 := LF.out.c0
              have LF1 := LF.out.c1
              have LF2 := LF.out.c2
              have LF3 := LF.out.c3
              clear O' C' hk'
              go_wp2_with fail
              refine (am_quiet S b EQ2 OM.out hC.out).mono ?_
              rintro e w' ⟨sl, cp, rfl, O', C', hk'⟩
              replace hC : Hid (Ctx W _ w') := C'
              replace OM : Hid (OwnM At _ w' _ _) := O'
              replace LF : Hid (Lies w' _ _ _ _ _) := LF.out.kept hk' LFP.out
              try clear LF0 LF1 LF2 LF3
              have LF0 := LF.out.c0
              have LF1 := LF.out.c1
              have LF2 := LF.out.c2
              have LF3 := LF.out.c3
              clear O' C' hk'
              clear h1 h3 EQ2 LF0 LF1 LF2 LF3
              go_wp2
              go_roundw
              case rel =>
                have h := HM.out
                have hf2 := HFL.out
                have hnc := HNc.out
                have h19 : t = 19 → j ≤ L - 9 := fun q => by
                  have := ht31 q
                  rcases hjj with h | h
                  · exact h
                  · exfalso
                    apply hnc
                    rw [hf2]
                    unfold fails
                    rw [if_pos (by omega)]
                    omega
                by_cases h8 : j = L + 8
                · rw [if_pos h8] at OM
                  rw [if_pos (by omega)] at h
                  have t19 : t ≠ 19 := fun q => by have := h19 q; omega
                  exact ⟨k + 1, c, z, by omega, by go_num, rfl, rfl, hc, Or.inr ⟨t + 1, 0, by rw [if_neg (by omega)]; omega, by omega, by omega, Or.inl (by omega), by rw [HFL.out]; unfold fails; rw [if_pos (by omega), if_neg (by omega)], (fun _ => by omega), OM.out⟩, hC, LF⟩
                · rw [if_neg h8] at OM
                  by_cases hs : L - 9 < j
                  · rw [if_pos hs] at h
                    exact ⟨k + 1, c, z, by omega, by go_num, rfl, rfl, hc, Or.inr ⟨t, j + 1, by rw [if_pos (by omega)]; omega, ht, by omega, Or.inr (by omega), by rw [HFL.out]; unfold fails; rw [if_pos hs, if_pos (by omega)], (fun q => by have := h19 q; omega), by rw [(Mm.pre_later f t (j + 1) (Nat.succ_ne_zero j)).1]; exact OM.out⟩, hC, LF⟩
                  · rw [if_neg hs] at h
                    exact ⟨k + 1, c, z, by omega, by go_num, rfl, rfl, hc, Or.inr ⟨t, j + 1, by rw [if_neg (by omega)]; omega, ht, by omega, Or.inl (by omega), by rw [HFL.out]; unfold fails; rw [if_neg hs, if_neg (by omega)], (fun q => by omega), by rw [(Mm.pre_later f t (j + 1) (Nat.succ_ne_zero j)).1]; exact OM.out⟩, hC, LF⟩
              case measure => simp [intOf]; omega
theorem walkA (S : MacSpec At) (HK : AckSpec) (HLn : LenSpec) (x : Bool) (n0 : Int) (r : Bool) (d : ByteArray) (w0 : (Lit.int .u32 n0).wf = true) (W : World) (hT : Tab W) :
    Calls Tryd.prog 3 #[.agg #[.bool x, .int .u32 n0, .bool r, .string d]] W fun e w' => e = .returned (.bool true) ∧ Below W.heap.size W w' := by
  obtain ⟨n, rfl, hn⟩ := u32_nat w0
  exact walkF S HK HLn (x, n, r, d.data.toList) d rfl hn W hT
end Go.Proofs.YthappkhiiopfgabDoor.macPassive
