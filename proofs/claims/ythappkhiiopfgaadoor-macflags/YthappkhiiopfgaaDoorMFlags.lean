/- MacFlags: a listener that meets an error drives six 0, then waits for eight 1 and three more, and is idle again; no condition. -/
import Derived.Test.YthappkhiiopfgaaDoorMi
import Derived.ProofKit
import Derived.OpenShut
namespace Go.Proofs.YthappkhiiopfgaaDoor.macFlags
open Go.ChangeShapes Go.WideShapes Go.ChangeAt Go.RowKit
set_option linter.unusedVariables false
variable {At : World → Nat → (Nat → Prop) → Mm.St → Prop}
/-- Behind k zeros: a frame begins. -/
def zs (k : Nat) : Mm.St := if k = 0 then Mm.idS false Cm.noF [] false 0 0 else ⟨.inFr, 0, false, false, false, false, Cm.noF, List.replicate k false, 0, 0⟩
theorem zs_bit (k : Nat) (hk : k < 5) : Mm.sample (zs k) false = (zs (k + 1), if k = 0 then [⟨6, Cm.noF, 0⟩] else []) := by
  obtain rfl | rfl | rfl | rfl | rfl : k = 0 ∨ k = 1 ∨ k = 2 ∨ k = 3 ∨ k = 4 := by omega
  all_goals rfl
def fl (k : Nat) : Mm.St := ⟨.flag, 6 - k, false, false, false, false, Cm.noF, List.replicate 5 false, 0, 1⟩
theorem zs_six : Mm.sample (zs 5) false = (fl 0, [⟨5, Cm.noF, 20⟩]) := rfl
/-- Waiting for the first one; ones so far. -/
def rc (k : Nat) : Mm.St := if k = 0 then ⟨.reco, 7, true, false, false, false, Cm.noF, List.replicate 5 false, 0, 1⟩ else if k < 8 then ⟨.reco, 8 - k, false, false, false, false, Cm.noF, List.replicate 5 false, 0, 1⟩ else if k < 11 then ⟨.pause, 11 - k, false, false, false, false, Cm.noF, List.replicate 5 false, 0, 1⟩ else ⟨.idle, 0, false, false, false, false, Cm.noF, List.replicate 5 false, 0, 1⟩
theorem fl_bit (k : Nat) (hk : k < 6) : Mm.sample (fl k) false = (if k = 5 then rc 0 else fl (k + 1), []) := by
  obtain rfl | rfl | rfl | rfl | rfl | rfl : k = 0 ∨ k = 1 ∨ k = 2 ∨ k = 3 ∨ k = 4 ∨ k = 5 := by omega
  all_goals rfl
theorem rc_zero : Mm.sample (rc 0) false = (rc 0, []) := rfl
theorem rc_one (k : Nat) (hk : k < 11) : Mm.sample (rc k) true = (rc (k + 1), []) := by
  have : k = 0 ∨ k = 1 ∨ k = 2 ∨ k = 3 ∨ k = 4 ∨ k = 5 ∨ k = 6 ∨ k = 7 ∨ k = 8 ∨ k = 9 ∨ k = 10 := by omega
  rcases this with rfl | rfl | rfl | rfl | rfl | rfl | rfl | rfl | rfl | rfl | rfl <;> rfl
theorem rc_idle (k : Nat) (hk : k < 11) : decide ((rc k).ph = .idle) = false := by
  have : k = 0 ∨ k = 1 ∨ k = 2 ∨ k = 3 ∨ k = 4 ∨ k = 5 ∨ k = 6 ∨ k = 7 ∨ k = 8 ∨ k = 9 ∨ k = 10 := by omega
  rcases this with rfl | rfl | rfl | rfl | rfl | rfl | rfl | rfl | rfl | rfl | rfl <;> rfl
theorem fl_drive (k : Nat) (hk : k < 6) : (if Mm.drive (fl k) then (49 : Int) else 48) = 48 := by
  obtain rfl | rfl | rfl | rfl | rfl | rfl : k = 0 ∨ k = 1 ∨ k = 2 ∨ k = 3 ∨ k = 4 ∨ k = 5 := by omega
  all_goals rfl
set_option maxRecDepth 100000 in
set_option maxHeartbeats 4000000 in
theorem walkN (S : MacSpec At) (HK : AckSpec) (n : Nat) (hn : n < 256) (W : World) (hT : Tab W) : Calls Tryd.prog 7 #[.int .u8 (n : Int)] W fun e w' => e = .returned (.bool true) ∧ Below W.heap.size W w' := by
  obtain ⟨N, hN⟩ : ∃ N : Nat, (n : Int) % 30 = (N : Int) := ⟨n % 30, by omega⟩
  have hN2 : N < 30 := by omega
  have HT : Hid (Tab W) := hT
  have hk := known7_any S HK W hT
  clear hT HK hn
  go_enter Tryd.func7, Tryd.ntmps7
  go_wp2_with fail
  refine hk.mono ?_
  rintro e w1 ⟨rfl, hb1⟩
  have hC : Hid (Ctx W _ w1) := Ctx.from HT.out hb1
  clear hk hb1 HT
  go_wp2_with fail
  refine (idle_any S hC.out).mono ?_
  rintro e w2 ⟨p, rfl, O', C', hk'⟩
  replace hC : Hid (Ctx W _ w2) := C'
  have OM : Hid (OwnM At _ w2 _ _) := O'
  clear O' C' hk'
  go_wp2_with fail
  go_loopw [4] (fun i wr => ∃ k : Nat, k ≤ 5 ∧ i = .int .i64 k ∧ Hid (OwnM At (fun g => w1.heap.size ≤ g) wr p (zs k)) ∧ Hid (Ctx W (fun g => w1.heap.size ≤ g) wr)) (fun i _ => 5 - (intOf i).toNat)
  case atStart => exact ⟨0, by decide, rfl, OM, hC⟩
  case round =>
    clear OM hC
    obtain ⟨k, hk, rfl, OM, hC⟩ := hrel
    by_cases hlt : k < 5
    · by_cases h0 : k = 0
      · subst h0
        go_wp2_with fail
        refine (am_one S 48 (zs_bit 0 (by decide)) OM.out hC.out).mono ?_
        rintro e w' ⟨eg, ecap, rfl, O', C', hk', ec1, ec2, eL, e0, e1, e2, e3, e4, e5⟩
        replace hC : Hid (Ctx W _ w') := C'
        replace OM : Hid (OwnM At _ w' _ _) := O'
        clear O' C' hk'
        clear e0 e1 e2 e3 e4 e5
        go_wp2
        go_roundw
        case rel => exact ⟨1, by decide, rfl, OM, hC⟩
        case measure => decide
      · have EQ := zs_bit k hlt
        rw [if_neg h0] at EQ
        have hmn : min (k : Int) 1 = 1 := by omega
        go_wp2_with fail
        refine (am_quiet S 48 EQ OM.out hC.out).mono ?_
        rintro e w' ⟨sl, cp, rfl, O', C', hk'⟩
        replace hC : Hid (Ctx W _ w') := C'
        replace OM : Hid (OwnM At _ w' _ _) := O'
        clear O' C' hk'
        clear EQ
        go_wp2
        go_roundw
        case rel => exact ⟨k + 1, by omega, by go_num, OM, hC⟩
        case measure => simp [intOf]; omega
    · obtain rfl : k = 5 := by omega
      go_wp2_with fail
      refine (am_one S 48 zs_six OM.out hC.out).mono ?_
      rintro e w' ⟨eg, ecap, rfl, O', C', hk', ec1, ec2, eL, e0, e1, e2, e3, e4, e5⟩
      replace hC : Hid (Ctx W _ w') := C'
      replace OM : Hid (OwnM At _ w' _ _) := O'
      clear O' C' hk'
      have HE : Hid (∀ w'' : World, Below w'.heap.size w' w'' → w''.cell? ⟨eg, 0, none⟩ = some (.int .i64 5) ∧ w''.cell? ⟨eg, 5, none⟩ = some (.int .i64 20)) := fun w'' hb =>
        ⟨(hb.cell (p := ⟨eg, 0, none⟩) eL).trans e0, (hb.cell (p := ⟨eg, 5, none⟩) eL).trans e5⟩
      clear e1 e2 e3 e4
      have e0' : w'.cell? ⟨eg, 0, none⟩ = some (.int .i64 5) := e0
      have e5' : w'.cell? ⟨eg, 5, none⟩ = some (.int .i64 20) := e5
      clear e0 e5 HE
      have hfd := cnt_field1
      go_wp2_with fail
      refine (am_counts S (a := 0) (b := 1) rfl OM.out hC.out).mono ?_
      rintro e w' ⟨rfl, O', C', hk'⟩
      replace hC : Hid (Ctx W _ w') := C'
      replace OM : Hid (OwnM At _ w' _ _) := O'
      clear O' C' hk'
      clear e0' e5'
      go_wp2_with fail
      go_loopw [6] (fun i wr => ∃ k : Nat, k ≤ 6 ∧ i = .int .i64 k ∧ Hid (OwnM At (fun g => w1.heap.size ≤ g) wr p (if k = 6 then rc 0 else fl k)) ∧ Hid (Ctx W (fun g => w1.heap.size ≤ g) wr)) (fun i _ => 6 - (intOf i).toNat)
      case atStart => exact ⟨0, by decide, rfl, OM, hC⟩
      case round =>
        clear OM hC hfd
        obtain ⟨k, hk, rfl, OM, hC⟩ := hrel
        by_cases hlt : k < 6
        · rw [if_neg (by omega)] at OM
          go_wp2_with fail
          refine (am_drive S (fl_drive k hlt) OM.out hC.out).mono ?_
          rintro e w' ⟨rfl, O', C', hk'⟩
          replace hC : Hid (Ctx W _ w') := C'
          replace OM : Hid (OwnM At _ w' _ _) := O'
          clear O' C' hk'
          go_wp2_with fail
          refine (am_quiet S 48 (fl_bit k hlt) OM.out hC.out).mono ?_
          rintro e w' ⟨sl, cp, rfl, O', C', hk'⟩
          replace hC : Hid (Ctx W _ w') := C'
          replace OM : Hid (OwnM At _ w' _ _) := O'
          clear O' C' hk'
          go_wp2
          go_roundw
          case rel =>
            refine ⟨k + 1, by omega, by go_num, ?_, hC⟩
            by_cases h5 : k = 5
            · rw [if_pos h5] at OM; rw [if_pos (by omega)]; exact OM
            · rw [if_neg h5] at OM; rw [if_neg (by omega)]; exact OM
          case measure => simp [intOf]; omega
        · rw [if_pos (show k = 6 by omega)] at OM
          go_wp2_with fail
          go_loopw [7] (fun i wr => ∃ k : Nat, k ≤ N ∧ i = .int .i64 k ∧ Hid (OwnM At (fun g => w1.heap.size ≤ g) wr p (rc 0)) ∧ Hid (Ctx W (fun g => w1.heap.size ≤ g) wr)) (fun i _ => N - (intOf i).toNat)
          case atStart => exact ⟨0, Nat.zero_le _, rfl, OM, hC⟩
          case round =>
            clear OM hC
            obtain ⟨k, hk, rfl, OM, hC⟩ := hrel
            by_cases hlt : k < N
            · skip
              go_wp2_with fail
              refine (am_drive S (v := 49) rfl OM.out hC.out).mono ?_
              rintro e w' ⟨rfl, O', C', hk'⟩
              replace hC : Hid (Ctx W _ w') := C'
              replace OM : Hid (OwnM At _ w' _ _) := O'
              clear O' C' hk'
              go_wp2_with fail
              refine (am_quiet S 48 rc_zero OM.out hC.out).mono ?_
              rintro e w' ⟨sl, cp, rfl, O', C', hk'⟩
              replace hC : Hid (Ctx W _ w') := C'
              replace OM : Hid (OwnM At _ w' _ _) := O'
              clear O' C' hk'
              go_wp2
              go_roundw
              case rel => exact ⟨k + 1, by omega, by go_num, OM, hC⟩
              case measure => simp [intOf]; omega
            · obtain rfl : k = N := by omega
              go_wp2_with fail
              clear hN
              go_loopw [8] (fun i wr => ∃ j : Nat, j ≤ 11 ∧ i = .int .i64 j ∧ Hid (OwnM At (fun g => w1.heap.size ≤ g) wr p (rc j)) ∧ Hid (Ctx W (fun g => w1.heap.size ≤ g) wr)) (fun i _ => 11 - (intOf i).toNat)
              case atStart => exact ⟨0, Nat.zero_le _, rfl, OM, hC⟩
              case round =>
                clear OM hC
                obtain ⟨j, hj, rfl, OM, hC⟩ := hrel
                by_cases hjl : j < 11
                · skip
                  go_wp2_with fail
                  refine (am_idle S (rc_idle j hjl) OM.out hC.out).mono ?_
                  rintro e w' ⟨rfl, O', C', hk'⟩
                  replace hC : Hid (Ctx W _ w') := C'
                  replace OM : Hid (OwnM At _ w' _ _) := O'
                  clear O' C' hk'
                  go_wp2_with fail
                  refine (am_quiet S 49 (rc_one j hjl) OM.out hC.out).mono ?_
                  rintro e w' ⟨sl, cp, rfl, O', C', hk'⟩
                  replace hC : Hid (Ctx W _ w') := C'
                  replace OM : Hid (OwnM At _ w' _ _) := O'
                  clear O' C' hk'
                  go_wp2
                  go_roundw
                  case rel => exact ⟨j + 1, by omega, by go_num, OM, hC⟩
                  case measure => simp [intOf]; omega
                · obtain rfl : j = 11 := by omega
                  go_wp2_with fail
                  refine (am_idle S (b := true) rfl OM.out hC.out).mono ?_
                  rintro e w' ⟨rfl, O', C', hk'⟩
                  replace hC : Hid (Ctx W _ w') := C'
                  replace OM : Hid (OwnM At _ w' _ _) := O'
                  clear O' C' hk'
                  go_wp2
                  go_ret
                  exact ⟨rfl, hC.out.below⟩
theorem walkA (S : MacSpec At) (HK : AckSpec) (a0 : Int) (w0 : (Lit.int .u8 a0).wf = true) (W : World) (hT : Tab W) : Calls Tryd.prog 7 #[.int .u8 a0] W fun e w' => e = .returned (.bool true) ∧ Below W.heap.size W w' := by
  obtain ⟨h1, h2⟩ := bounds_u8 w0
  obtain ⟨n, rfl⟩ := Int.eq_ofNat_of_zero_le h1
  exact walkN S HK n (by omega) W hT
end Go.Proofs.YthappkhiiopfgaaDoor.macFlags
