/- MacCancels: what waits can be cancelled, what is being sent can't; cancelled it isn't sent; no condition. -/
import Derived.Test.YthappkhiiopfgaaDoorMi
import Derived.ProofKit
import Derived.OpenShut
namespace Go.Proofs.YthappkhiiopfgaaDoor.macCancels
open Go.ChangeShapes Go.WideShapes Go.ChangeAt Go.RowKit
set_option linter.unusedVariables false
variable {At : World → Nat → (Nat → Prop) → Mm.St → Prop}
def LenSpec : Prop := ∀ (f : Cm.Fr) (w : World), Tab w → f.2.1 < 4294967296 → Calls Tryd.prog 16 #[frV f] w fun e w' => e = .returned (.int .i64 ((Cm.enc f.1 f.2.1 f.2.2.1 f.2.2.2).length : Int)) ∧ Below w.heap.size w w'
def IsSpec : Prop := ∀ w, Calls Tryd.prog 19 #[.string ⟨#[48, 49]⟩] w fun e w' => e = .returned (.bool true) ∧ Below w.heap.size w w'
theorem enc_row (f : Cm.Fr) (hf : Mm.isFr f = true) : Cm.enc f.1 f.2.1 f.2.2.1 f.2.2.2 = Mm.outB f := by
  unfold Cm.enc
  have : Fm.isF f.1 f.2.1 f.2.2.1 f.2.2.2 = true := hf
  rw [this]
  rfl
theorem enc_none (f : Cm.Fr) (hf : Mm.isFr f = false) : Cm.enc f.1 f.2.1 f.2.2.1 f.2.2.2 = [] := by
  unfold Cm.enc
  have : Fm.isF f.1 f.2.1 f.2.2.1 f.2.2.2 = false := hf
  rw [this]
  rfl
/-- Behind i bits of its own. -/
def st (f : Cm.Fr) (i : Nat) : Mm.St := if i < 3 then Mm.pz (3 - i) true f [] false 0 0 else Mm.tst f [] false 0 0 (i - 3)
def dv (f : Cm.Fr) (i : Nat) : Bool := if i < 3 then true else (Mm.outB f).getD (i - 3) true
theorem st_drive {f : Cm.Fr} (hf : Mm.isFr f = true) (i : Nat) (hi : i < 8) : Mm.drive (st f i) = dv f i := by
  have := (Mm.out_len hf).1
  unfold st dv
  by_cases h : i < 3
  · rw [if_pos h, if_pos h]; rfl
  · rw [if_neg h, if_neg h]
    exact Mm.tst_drive [] false 0 0 (i - 3) hf (by omega)
theorem st_bit {f : Cm.Fr} (hf : Mm.isFr f = true) (i : Nat) (hi : i < 8) : Mm.sample (st f i) (dv f i) = (st f (i + 1), if i = 3 then [⟨6, Cm.noF, 0⟩] else []) := by
  have := (Mm.out_len hf).1
  unfold st dv
  by_cases h : i < 3
  · obtain rfl | rfl | rfl : i = 0 ∨ i = 1 ∨ i = 2 := by omega
    all_goals rfl
  · rw [if_neg h, if_neg h, if_neg (by omega)]
    have hg := Mm.ack_get f (i - 3) (by omega)
    rw [if_neg (by omega)] at hg
    rw [← hg, Mm.tst_bit hf [] false 0 0 (i - 3) (by omega), show i - 3 + 1 = i + 1 - 3 by omega]
    congr 1
    by_cases h3 : i = 3
    · rw [if_pos (by omega), if_pos h3]
    · rw [if_neg (by omega), if_neg h3]
/-- Cancelled, j ones later. -/
def cst (f : Cm.Fr) (j : Nat) : Mm.St := if j < 3 then Mm.pz (3 - j) false f [] false 0 0 else Mm.idS false f [] false 0 0
theorem st_cancel (f : Cm.Fr) (k : Nat) (hk : k < 4) : Mm.cancel (st f k) = (true, cst f k) := by
  obtain rfl | rfl | rfl | rfl : k = 0 ∨ k = 1 ∨ k = 2 ∨ k = 3 := by omega
  all_goals rfl
theorem cst_one (f : Cm.Fr) (j : Nat) : Mm.sample (cst f j) true = (cst f (j + 1), []) := by
  by_cases h : 3 ≤ j
  · unfold cst
    rw [if_neg (by omega), if_neg (by omega)]; rfl
  · obtain rfl | rfl | rfl : j = 0 ∨ j = 1 ∨ j = 2 := by omega
    all_goals rfl
theorem cst_drive (f : Cm.Fr) (j : Nat) : (if Mm.drive (cst f j) then (49 : Int) else 48) = 49 := by
  unfold cst
  by_cases h : j < 3
  · rw [if_pos h]; rfl
  · rw [if_neg h]; rfl
theorem cst_busy (f : Cm.Fr) (j : Nat) : Mm.busy (cst f j) = false := by
  unfold cst
  by_cases h : j < 3
  · rw [if_pos h]; rfl
  · rw [if_neg h]; rfl
theorem st_late (f : Cm.Fr) (k : Nat) (hk : 4 ≤ k) : Mm.cancel (st f k) = (false, st f k) ∧ Mm.busy (st f k) = true := by
  unfold st Mm.tst
  rw [if_neg (by omega), if_neg (by omega)]
  exact ⟨rfl, rfl⟩
theorem sign_dv (b : Bool) : (if b then (49 : Int) else 48) = ((Bm.sign b).toNat : Int) := by cases b <;> rfl
set_option maxRecDepth 100000 in
set_option maxHeartbeats 4000000 in
theorem walkF (S : MacSpec At) (HK : AckSpec) (HLn : LenSpec) (HI : IsSpec) (f : Cm.Fr) (d : ByteArray) (hd : d = ⟨f.2.2.2.toArray⟩) (hn : f.2.1 < 4294967296) (n : Nat) (h256 : n < 256) (W : World) (hT : Tab W) :
    Calls Tryd.prog 6 #[.agg #[.bool f.1, .int .u32 (f.2.1 : Int), .bool f.2.2.1, .string d], .int .u8 (n : Int)] W fun e w' => e = .returned (.bool true) ∧ Below W.heap.size W w' := by
  obtain ⟨N, hN⟩ : ∃ N : Nat, (n : Int) % 8 = (N : Int) := ⟨n % 8, by omega⟩
  have hN2 : N < 8 := by omega
  clear h256
  have hdl : d.size = f.2.2.2.length := by rw [hd]; simp [ByteArray.size]
  have LF : Hid (Lies (W.alloc (.cells #[.bool f.1, .int .u32 (f.2.1 : Int), .bool f.2.2.1, .string d] 24)) W.heap.size f.1 f.2.1 f.2.2.1 d) := Lies.new W _ _ _ _
  have hk := known7_any S HK _ (hT.alloc (.cells #[.bool f.1, .int .u32 (f.2.1 : Int), .bool f.2.2.1, .string d] 24))
  have HT : Hid (Tab W) := hT
  have HLn' : Hid (∀ w, Tab w → Calls Tryd.prog 16 #[.agg #[.bool f.1, .int .u32 (f.2.1 : Int), .bool f.2.2.1, .string d]] w fun e w' => e = .returned (.int .i64 ((Cm.enc f.1 f.2.1 f.2.2.1 f.2.2.2).length : Int)) ∧ Below w.heap.size w w') := fun w hT => by rw [hd]; exact HLn f w hT hn
  have HAs : Hid (∀ (P : Nat → Prop) (w : World) (p : Nat) (m m' : Mm.St) (k : Nat), Mm.ask m f = (k, m') → f.2.2.2.length ≤ 1000 → OwnM At P w p m → Ctx W P w → Calls Tryd.prog 15 #[bptr p, .agg #[.bool f.1, .int .u32 (f.2.1 : Int), .bool f.2.2.1, .string d]] w fun e w' => e = .returned (.int .i64 (k : Int)) ∧ OwnM At P w' p m' ∧ Ctx W P w' ∧ Kept P w w') := fun P w p m m' k hm h2 h hC => by rw [hd]; exact am_ask S f hm hn h2 h hC
  have HIs : Hid (IsSpec) := HI
  clear hT HK HLn HI hd hn
  go_enter Tryd.func6, Tryd.ntmps6
  go_wp2_with fail
  refine hk.mono ?_
  rintro e w1 ⟨rfl, hb1⟩
  replace LF : Hid (Lies w1 _ _ _ _ _) := LF.out.on hb1
  have hA : Hid (Below W.heap.size W w1) := below_joinK ((Below.refl _ _).alloc (Nat.le_refl _) _) hb1 (by simp)
  clear hk hb1
  have LF0 := LF.out.c0
  have LF1 := LF.out.c1
  have LF2 := LF.out.c2
  have LF3 := LF.out.c3
  by_cases hlong : 20 < d.size
  · clear HLn' HAs HIs
    go_wp2
    go_ret
    exact ⟨rfl, hA.out⟩
  · go_wp2_with fail
    refine (HLn'.out _ (HT.out.below hA.out)).mono ?_
    rintro e w2 ⟨rfl, hb2⟩
    cases hf : Mm.isFr f
    · rw [enc_none f hf]
      have hA2 : Hid (Below W.heap.size W w2) := hA.out.trans (hb2.mono hA.out.size)
      clear hb2 HLn' HAs HIs LF0 LF1 LF2 LF3 LF
      go_wp2
      go_ret
      exact ⟨rfl, hA2.out⟩
    · rw [enc_row f hf]
      have hol : (((Mm.outB f).length : Int) == 0) = false := by have := (Mm.out_len hf).1; simp; intro k; rw [k] at this; simp at this
      have hA2 : Hid (Below W.heap.size W w2) := hA.out.trans (hb2.mono hA.out.size)
      replace LF : Hid (Lies w2 _ _ _ _ _) := LF.out.on hb2
      have hC : Hid (Ctx W (fun g => w2.heap.size ≤ g) w2) := Ctx.from HT.out hA2.out
      have LFP : Hid (¬ (fun g => w2.heap.size ≤ g) W.heap.size) := Nat.not_le.2 LF.out.lt
      clear hb2 HLn' LF0 LF1 LF2 LF3 hA hA2 HT
      have LF0 := LF.out.c0
      have LF1 := LF.out.c1
      have LF2 := LF.out.c2
      have LF3 := LF.out.c3
      go_wp2_with fail
      refine (am_new S hC.out).mono ?_
      rintro e w' ⟨p, rfl, O', C', hk'⟩
      replace hC : Hid (Ctx W _ w') := C'
      have OM : Hid (OwnM At _ w' _ _) := O'
      replace LF : Hid (Lies w' _ _ _ _ _) := LF.out.kept hk' LFP.out
      try clear LF0 LF1 LF2 LF3
      have LF0 := LF.out.c0
      have LF1 := LF.out.c1
      have LF2 := LF.out.c2
      have LF3 := LF.out.c3
      clear O' C' hk'
      have HAm := fun w hO hC => HAs.out (fun g => w2.heap.size ≤ g) w p Mm.fresh (st f 0) 0 (by unfold Mm.ask; rw [if_neg (by intro k; cases k), if_neg (by rw [hf]; decide)]; rfl) (by omega) hO hC
      go_wp2_with fail
      refine (HAm _ OM.out hC.out).mono ?_
      rintro e w3 ⟨rfl, O', C', hk'⟩
      replace hC : Hid (Ctx W _ w3) := C'
      replace OM : Hid (OwnM At _ w3 _ _) := O'
      clear O' C' hk' HAm HAs LF LFP LF0 LF1 LF2 LF3
      go_wp2_with fail
      go_loopw [7] (fun i wr => ∃ k : Nat, k ≤ N ∧ i = .int .i64 k ∧ Hid (OwnM At (fun g => w2.heap.size ≤ g) wr p (st f k)) ∧ Hid (Ctx W (fun g => w2.heap.size ≤ g) wr)) (fun i _ => N - (intOf i).toNat)
      case atStart => exact ⟨0, Nat.zero_le _, rfl, OM, hC⟩
      case round =>
        clear OM hC
        obtain ⟨k, hk, rfl, OM, hC⟩ := hrel
        by_cases hlt : k < N
        · have hdr : (if Mm.drive (st f k) then (49 : Int) else 48) = ((Bm.sign (dv f k)).toNat : Int) := by rw [st_drive hf k (by omega), sign_dv]
          have EQ : Mm.sample (st f k) (Bm.sign (dv f k) != 48) = (st f (k + 1), if k = 3 then [⟨6, Cm.noF, 0⟩] else []) := by rw [bit_byte]; exact st_bit hf k (by omega)
          generalize Bm.sign (dv f k) = c at *
          go_wp2_with fail
          refine (am_drive S hdr OM.out hC.out).mono ?_
          rintro e w' ⟨rfl, O', C', hk'⟩
          replace hC : Hid (Ctx W _ w') := C'
          replace OM : Hid (OwnM At _ w' _ _) := O'
          clear O' C' hk'
          go_wp2_with fail
          refine (am_sample S c EQ OM.out hC.out).mono ?_
          rintro e w4 ⟨sl, cp, rfl, _, O', C', hk'⟩
          replace hC : Hid (Ctx W _ w4) := C'
          replace OM : Hid (OwnM At _ w4 _ _) := O'
          clear O' C' hk' EQ hdr
          generalize (if k = 3 then [(⟨6, Cm.noF, 0⟩ : Mm.Ev)] else []).length = ln
          go_wp2
          go_roundw
          case rel => exact ⟨k + 1, by omega, by go_num, OM, hC⟩
          case measure => simp [intOf]; omega
        · obtain rfl : k = N := by omega
          by_cases h4 : k < 4
          · have hk4 : decide ((k : Int) < 4) = true := decide_eq_true (by omega)
            go_wp2_with fail
            refine (am_cancel S (st_cancel f k h4) OM.out hC.out).mono ?_
            rintro e w' ⟨rfl, O', C', hk'⟩
            replace hC : Hid (Ctx W _ w') := C'
            replace OM : Hid (OwnM At _ w' _ _) := O'
            clear O' C' hk'
            go_wp2_with fail
            go_loopw [9] (fun i wr => ∃ j : Nat, j ≤ 20 ∧ i = .int .i64 j ∧ Hid (OwnM At (fun g => w2.heap.size ≤ g) wr p (cst f (k + j))) ∧ Hid (Ctx W (fun g => w2.heap.size ≤ g) wr)) (fun i _ => 20 - (intOf i).toNat)
            case atStart => exact ⟨0, Nat.zero_le _, rfl, OM, hC⟩
            case round =>
              clear OM hC
              obtain ⟨j, hj, rfl, OM, hC⟩ := hrel
              by_cases hjl : j < 20
              · skip
                go_wp2_with fail
                refine (am_drive S (cst_drive f (k + j)) OM.out hC.out).mono ?_
                rintro e w' ⟨rfl, O', C', hk'⟩
                replace hC : Hid (Ctx W _ w') := C'
                replace OM : Hid (OwnM At _ w' _ _) := O'
                clear O' C' hk'
                go_wp2_with fail
                refine (am_quiet S 49 (cst_one f (k + j)) OM.out hC.out).mono ?_
                rintro e w' ⟨sl, cp, rfl, O', C', hk'⟩
                replace hC : Hid (Ctx W _ w') := C'
                replace OM : Hid (OwnM At _ w' _ _) := O'
                clear O' C' hk'
                go_wp2
                go_roundw
                case rel => exact ⟨j + 1, by omega, by go_num, OM, hC⟩
                case measure => simp [intOf]; omega
              · skip
                go_wp2_with fail
                refine (am_busy S (cst_busy f (k + j)) OM.out hC.out).mono ?_
                rintro e w' ⟨rfl, O', C', hk'⟩
                replace hC : Hid (Ctx W _ w') := C'
                replace OM : Hid (OwnM At _ w' _ _) := O'
                clear O' C' hk'
                go_wp2_with fail
                refine (HIs.out _).mono ?_
                rintro e w6 ⟨rfl, hb6⟩
                have hA6 := (hC.out.more hb6).below
                clear hb6
                go_wp2
                go_ret
                exact ⟨rfl, hA6⟩
          · have hk4 : decide ((k : Int) < 4) = false := decide_eq_false (by omega)
            go_wp2_with fail
            refine (am_cancel S (st_late f k (by omega)).1 OM.out hC.out).mono ?_
            rintro e w' ⟨rfl, O', C', hk'⟩
            replace hC : Hid (Ctx W _ w') := C'
            replace OM : Hid (OwnM At _ w' _ _) := O'
            clear O' C' hk'
            go_wp2_with fail
            go_loopw [9] (fun i wr => i = .int .i64 0 ∧ Hid (OwnM At (fun g => w2.heap.size ≤ g) wr p (st f k)) ∧ Hid (Ctx W (fun g => w2.heap.size ≤ g) wr)) (fun i _ => 0)
            case atStart => exact ⟨rfl, OM, hC⟩
            case round =>
              clear OM hC
              obtain ⟨rfl, OM, hC⟩ := hrel
              go_wp2_with fail
              refine (am_busy S (st_late f k (by omega)).2 OM.out hC.out).mono ?_
              rintro e w' ⟨rfl, O', C', hk'⟩
              replace hC : Hid (Ctx W _ w') := C'
              replace OM : Hid (OwnM At _ w' _ _) := O'
              clear O' C' hk'
              go_wp2_with fail
              refine (HIs.out _).mono ?_
              rintro e w6 ⟨rfl, hb6⟩
              have hA6 := (hC.out.more hb6).below
              clear hb6
              go_wp2
              go_ret
              exact ⟨rfl, hA6⟩
theorem walkA (S : MacSpec At) (HK : AckSpec) (HLn : LenSpec) (HI : IsSpec) (x : Bool) (n0 : Int) (r : Bool) (d : ByteArray) (w0 : (Lit.int .u32 n0).wf = true) (a1 : Int) (w1 : (Lit.int .u8 a1).wf = true) (W : World) (hT : Tab W) :
    Calls Tryd.prog 6 #[.agg #[.bool x, .int .u32 n0, .bool r, .string d], .int .u8 a1] W fun e w' => e = .returned (.bool true) ∧ Below W.heap.size W w' := by
  obtain ⟨n, rfl, hn⟩ := u32_nat w0
  obtain ⟨h1, h2⟩ := bounds_u8 w1
  obtain ⟨m, rfl⟩ := Int.eq_ofNat_of_zero_le h1
  exact walkF S HK HLn HI (x, n, r, d.data.toList) d rfl hn m (by omega) W hT
end Go.Proofs.YthappkhiiopfgaaDoor.macCancels
