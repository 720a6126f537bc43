/- CodeLong: a frame has no more bits than it may, and as many as its fields at least; no six alike; it begins with 0. No condition but the row's own: the table of widths holds what the program's text lays. -/
import Derived.Test.YtaphdehhnnglgabDoorYk
import Derived.Test.YtaphdehhnnglgabDoorRw
import Derived.Test.YtaphdehhnnglgabDoorMa
import Derived.Test.YtaphdehhnnglgabDoorMb
namespace Go.Proofs.YtaphdehhnnglgabDoor.codeLong
open Go.ChangeShapes Go.WideShapes Go.ChangeAt Go.RowKit
open Go.ChangeMaps (open_string shut_string)
set_option linter.unusedVariables false
theorem first_bit (x : Bool) (n : Nat) (r : Bool) (d : List UInt8) : ∃ t, Sm.stuff (Cm.plainOf (Fm.body0 x n r d) (Bm.crc (Fm.body0 x n r d))) = false :: t := by
  have h : ∃ t, Cm.plainOf (Fm.body0 x n r d) (Bm.crc (Fm.body0 x n r d)) = false :: t := by
    generalize Bm.crc (Fm.body0 x n r d) = c
    unfold Cm.plainOf Fm.body0 Fm.arb0
    cases x
    · exact ⟨_, rfl⟩
    · exact ⟨_, rfl⟩
  obtain ⟨t, ht⟩ := h
  rw [ht]
  refine ⟨Sm.stB (1, false) [] t, ?_⟩
  show Sm.stB (0, false) [] (false :: t) = _
  rw [Sm.stB_cons _ _ _ (by decide)]
  rfl
theorem byte_at (T : List Bool) (k : Nat) (h : k < (ByteArray.mk (Bm.row (T ++ Cm.ones 10)).toArray).size) (h' : k < T.length) : (ByteArray.mk (Bm.row (T ++ Cm.ones 10)).toArray)[k] = Bm.sign T[k] := by
  have h2 := Sm.sign_get (T ++ Cm.ones 10) k (by rw [List.length_append]; omega)
  rw [List.getElem_append_left h'] at h2
  have h3 : (Bm.row (T ++ Cm.ones 10))[k]? = some (ByteArray.mk (Bm.row (T ++ Cm.ones 10)).toArray)[k] := by
    have hk : k < (Bm.row (T ++ Cm.ones 10)).length := by rw [Bm.length_row, List.length_append]; omega
    rw [List.getElem?_eq_getElem hk]
    rfl
  rw [h3] at h2
  exact Option.some.inj h2
def S0size (S : ByteArray) (T : List Bool) : Prop := S.size = T.length + 10
set_option maxRecDepth 100000 in
set_option maxHeartbeats 8000000 in
theorem walkN (x0 : Bool) (n0 : Nat) (r0 : Bool) (d0 : ByteArray) (h0 : n0 < 4294967296) (W : World) (hT : Tab W) :
    Calls Tryd.prog 3 #[.agg #[.bool x0, .int .u32 n0, .bool r0, .string d0]] W fun e w' => e = .returned (.bool true) ∧ Below W.heap.size W w' := by
  have HC : Hid (∀ w, Tab w → Calls Tryd.prog 10 #[.agg #[.bool x0, .int .u32 n0, .bool r0, .string d0]] w fun e w' => e = .returned (.string ⟨(Bm.row (Cm.enc x0 n0 r0 d0.data.toList)).toArray⟩) ∧ Below w.heap.size w w') := fun w hT => cEnc_any x0 n0 r0 d0 w hT h0
  have HL : Hid (∀ w, Tab w → Calls Tryd.prog 8 #[.agg #[.bool x0, .int .u32 n0, .bool r0, .string d0]] w fun e w' => e = .returned (.int .i64 ((Cm.enc x0 n0 r0 d0.data.toList).length : Int)) ∧ Below w.heap.size w w') := fun w hT => cLen_any x0 n0 r0 d0 w hT h0
  have HT : Hid (Tab _) := hT.alloc (.cells #[.bool x0, .int .u32 n0, .bool r0, .string d0] 24)
  have hA : Hid (Below W.heap.size W _) := (Below.refl _ _).alloc (Nat.le_refl _) (.cells #[.bool x0, .int .u32 n0, .bool r0, .string d0] 24)
  have La : Hid (Lies _ _ _ _ _ _) := Lies.new W x0 n0 r0 d0
  clear hT
  cases f0 : decide ((d0.size : Int) ≤ 20)
  case false =>
    generalize (Cm.enc x0 n0 r0 d0.data.toList).length = L at *
    go_enter Tryd.func3, Tryd.ntmps3
    go_wp2_with (first | (go_at_call 7; refine (known4_any _ HT.out).mono ?_; rintro e w' ⟨rfl, hb'⟩; replace La : Hid (Lies _ _ _ _ _ _) := (by first | exact Lies.on La.out hb' | exact Lies.on (Lies.alloc La.out _) hb'); replace HT : Hid (Tab _) := (by first | exact HT.out.below hb' | exact (HT.out.alloc _).below hb'); replace hA : Hid (Below W.heap.size W _) := (by first | exact below_join hA.out hb' | exact below_join (hA.out.alloc hA.out.size _) hb'); (try clear La0 La1 La2 La3 LaL); have La0 := La.out.c0; have La1 := La.out.c1; have La2 := La.out.c2; have La3 := La.out.c3; have LaL := La.out.lt; clear hb') | (go_at_call 9; refine (few4_any _ _ _ _ _).mono ?_; rintro e w' ⟨rfl, hb'⟩; replace La : Hid (Lies _ _ _ _ _ _) := (by first | exact Lies.on La.out hb' | exact Lies.on (Lies.alloc La.out _) hb'); replace HT : Hid (Tab _) := (by first | exact HT.out.below hb' | exact (HT.out.alloc _).below hb'); replace hA : Hid (Below W.heap.size W _) := (by first | exact below_join hA.out hb' | exact below_join (hA.out.alloc hA.out.size _) hb'); (try clear La0 La1 La2 La3 LaL); have La0 := La.out.c0; have La1 := La.out.c1; have La2 := La.out.c2; have La3 := La.out.c3; have LaL := La.out.lt; clear hb') | (go_at_call 8; refine (HL.out _ HT.out).mono ?_; rintro e w' ⟨rfl, hb'⟩; replace La : Hid (Lies _ _ _ _ _ _) := (by first | exact Lies.on La.out hb' | exact Lies.on (Lies.alloc La.out _) hb'); replace HT : Hid (Tab _) := (by first | exact HT.out.below hb' | exact (HT.out.alloc _).below hb'); replace hA : Hid (Below W.heap.size W _) := (by first | exact below_join hA.out hb' | exact below_join (hA.out.alloc hA.out.size _) hb'); (try clear La0 La1 La2 La3 LaL); have La0 := La.out.c0; have La1 := La.out.c1; have La2 := La.out.c2; have La3 := La.out.c3; have LaL := La.out.lt; clear hb'))
    all_goals
      go_ret
      exact ⟨rfl, hA.out⟩
  cases i0 : Fm.isF x0 n0 r0 d0.data.toList
  case false =>
    have e0 : Cm.enc x0 n0 r0 d0.data.toList = [] := by unfold Cm.enc; rw [i0]; rfl
    rw [e0] at HL
    go_enter Tryd.func3, Tryd.ntmps3
    go_wp2_with (first | (go_at_call 7; refine (known4_any _ HT.out).mono ?_; rintro e w' ⟨rfl, hb'⟩; replace La : Hid (Lies _ _ _ _ _ _) := (by first | exact Lies.on La.out hb' | exact Lies.on (Lies.alloc La.out _) hb'); replace HT : Hid (Tab _) := (by first | exact HT.out.below hb' | exact (HT.out.alloc _).below hb'); replace hA : Hid (Below W.heap.size W _) := (by first | exact below_join hA.out hb' | exact below_join (hA.out.alloc hA.out.size _) hb'); (try clear La0 La1 La2 La3 LaL); have La0 := La.out.c0; have La1 := La.out.c1; have La2 := La.out.c2; have La3 := La.out.c3; have LaL := La.out.lt; clear hb') | (go_at_call 9; refine (few4_any _ _ _ _ _).mono ?_; rintro e w' ⟨rfl, hb'⟩; replace La : Hid (Lies _ _ _ _ _ _) := (by first | exact Lies.on La.out hb' | exact Lies.on (Lies.alloc La.out _) hb'); replace HT : Hid (Tab _) := (by first | exact HT.out.below hb' | exact (HT.out.alloc _).below hb'); replace hA : Hid (Below W.heap.size W _) := (by first | exact below_join hA.out hb' | exact below_join (hA.out.alloc hA.out.size _) hb'); (try clear La0 La1 La2 La3 LaL); have La0 := La.out.c0; have La1 := La.out.c1; have La2 := La.out.c2; have La3 := La.out.c3; have LaL := La.out.lt; clear hb') | (go_at_call 8; refine (HL.out _ HT.out).mono ?_; rintro e w' ⟨rfl, hb'⟩; replace La : Hid (Lies _ _ _ _ _ _) := (by first | exact Lies.on La.out hb' | exact Lies.on (Lies.alloc La.out _) hb'); replace HT : Hid (Tab _) := (by first | exact HT.out.below hb' | exact (HT.out.alloc _).below hb'); replace hA : Hid (Below W.heap.size W _) := (by first | exact below_join hA.out hb' | exact below_join (hA.out.alloc hA.out.size _) hb'); (try clear La0 La1 La2 La3 LaL); have La0 := La.out.c0; have La1 := La.out.c1; have La2 := La.out.c2; have La3 := La.out.c3; have LaL := La.out.lt; clear hb'))
    all_goals
      go_ret
      exact ⟨rfl, hA.out⟩
  have e0 : Cm.enc x0 n0 r0 d0.data.toList = Cm.enc0 x0 n0 r0 d0.data.toList := by unfold Cm.enc; rw [i0]; rfl
  have hl := Cm.enc_len i0
  have e1 : Cm.enc0 x0 n0 r0 d0.data.toList = Sm.stuff (Cm.plainOf (Fm.body0 x0 n0 r0 d0.data.toList) (Bm.crc (Fm.body0 x0 n0 r0 d0.data.toList))) ++ Cm.ones 10 := rfl
  obtain ⟨t, ht⟩ := first_bit x0 n0 r0 d0.data.toList
  have HC5 := Sm.calm_stuff (Cm.plainOf (Fm.body0 x0 n0 r0 d0.data.toList) (Bm.crc (Fm.body0 x0 n0 r0 d0.data.toList)))
  have hsz : d0.data.toList.length = d0.size := by simp
  rw [hsz, e1] at hl
  rw [e0, e1] at HC HL
  clear e0 e1
  generalize Sm.stuff (Cm.plainOf (Fm.body0 x0 n0 r0 d0.data.toList) (Bm.crc (Fm.body0 x0 n0 r0 d0.data.toList))) = T at *
  have hTl : (T ++ Cm.ones 10).length = T.length + 10 := by rw [List.length_append]; rfl
  have hz : (ByteArray.mk (Bm.row (T ++ Cm.ones 10)).toArray).size = T.length + 10 := by rw [size_rowr, hTl]
  have HB : Hid (∀ (k : Nat) (h : k < (ByteArray.mk (Bm.row (T ++ Cm.ones 10)).toArray).size) (h' : k < T.length), (ByteArray.mk (Bm.row (T ++ Cm.ones 10)).toArray)[k] = Bm.sign T[k]) := byte_at T
  rw [hTl] at hl HL
  have HLn : Hid (∀ w, Tab w → Calls Tryd.prog 8 #[.agg #[.bool x0, .int .u32 n0, .bool r0, .string d0]] w fun e w' => e = .returned (.int .i64 ((T.length : Int) + 10)) ∧ Below w.heap.size w w') := fun w hT => by
    have h := HL.out w hT
    rw [show ((T.length + 10 : Nat) : Int) = (T.length : Int) + 10 from by omega] at h
    exact h
  have ht0 : Hid (∃ t, T = false :: t) := ⟨t, ht⟩
  have HC5' : Hid (Sm.calm (0, false) T) := HC5
  have hT1 : 34 ≤ T.length ∧ T.length ≤ 190 := by
    have := hl.1
    have := hl.2.2
    split at * <;> omega
  obtain ⟨hT1, hT2⟩ := hT1
  have HLL : Hid (_) := hl
  have hzH : Hid (S0size (ByteArray.mk (Bm.row (T ++ Cm.ones 10)).toArray) T) := hz
  clear ht hTl HL HC5 hl t hsz hz
  generalize ByteArray.mk (Bm.row (T ++ Cm.ones 10)).toArray = S at *
  have hd20 : d0.size ≤ 20 := by
    have := of_decide_eq_true f0
    omega
  cases x0
  · skip
    go_enter Tryd.func3, Tryd.ntmps3
    go_wp2_with (first | (go_at_call 7; refine (known4_any _ HT.out).mono ?_; rintro e w' ⟨rfl, hb'⟩; replace La : Hid (Lies _ _ _ _ _ _) := (by first | exact Lies.on La.out hb' | exact Lies.on (Lies.alloc La.out _) hb'); replace HT : Hid (Tab _) := (by first | exact HT.out.below hb' | exact (HT.out.alloc _).below hb'); replace hA : Hid (Below W.heap.size W _) := (by first | exact below_join hA.out hb' | exact below_join (hA.out.alloc hA.out.size _) hb'); (try clear La0 La1 La2 La3 LaL); have La0 := La.out.c0; have La1 := La.out.c1; have La2 := La.out.c2; have La3 := La.out.c3; have LaL := La.out.lt; clear hb') | (go_at_call 9; refine (few4_any _ _ _ _ _).mono ?_; rintro e w' ⟨rfl, hb'⟩; replace La : Hid (Lies _ _ _ _ _ _) := (by first | exact Lies.on La.out hb' | exact Lies.on (Lies.alloc La.out _) hb'); replace HT : Hid (Tab _) := (by first | exact HT.out.below hb' | exact (HT.out.alloc _).below hb'); replace hA : Hid (Below W.heap.size W _) := (by first | exact below_join hA.out hb' | exact below_join (hA.out.alloc hA.out.size _) hb'); (try clear La0 La1 La2 La3 LaL); have La0 := La.out.c0; have La1 := La.out.c1; have La2 := La.out.c2; have La3 := La.out.c3; have LaL := La.out.lt; clear hb') | (go_at_call 8; refine (HLn.out _ HT.out).mono ?_; rintro e w' ⟨rfl, hb'⟩; replace La : Hid (Lies _ _ _ _ _ _) := (by first | exact Lies.on La.out hb' | exact Lies.on (Lies.alloc La.out _) hb'); replace HT : Hid (Tab _) := (by first | exact HT.out.below hb' | exact (HT.out.alloc _).below hb'); replace hA : Hid (Below W.heap.size W _) := (by first | exact below_join hA.out hb' | exact below_join (hA.out.alloc hA.out.size _) hb'); (try clear La0 La1 La2 La3 LaL); have La0 := La.out.c0; have La1 := La.out.c1; have La2 := La.out.c2; have La3 := La.out.c3; have LaL := La.out.lt; clear hb') | (go_at_call 10; refine (HC.out _ HT.out).mono ?_; rintro e w' ⟨rfl, hb'⟩; replace La : Hid (Lies _ _ _ _ _ _) := (by first | exact Lies.on La.out hb' | exact Lies.on (Lies.alloc La.out _) hb'); replace HT : Hid (Tab _) := (by first | exact HT.out.below hb' | exact (HT.out.alloc _).below hb'); replace hA : Hid (Below W.heap.size W _) := (by first | exact below_join hA.out hb' | exact below_join (hA.out.alloc hA.out.size _) hb'); (try clear La0 La1 La2 La3 LaL); have La0 := La.out.c0; have La1 := La.out.c1; have La2 := La.out.c2; have La3 := La.out.c3; have LaL := La.out.lt; clear hb'))
    clear La0 La1 La2 La3 LaL HT La HC HLn
    go_loopw [5, 7] (fun u i wr => ∃ k : Nat, k ≤ T.length ∧ i = .int .i64 k ∧ u = .int .i64 (Sm.run (0, false) (T.take k)).1 ∧ Hid (Below W.heap.size W wr)) (fun _ i _ => T.length - (intOf i).toNat)
    case atStart => exact ⟨0, Nat.zero_le _, rfl, rfl, hA⟩
    case round =>
      obtain ⟨k, hk, rfl, rfl, hb⟩ := hrel
      by_cases hlt : k < T.length
      · cases k with
        | zero =>
          have HF : Hid ((Sm.run (0, false) (T.take (0 + 1))).1 = 1) := Sm.run_first T hlt
          go_wp2_with fail
          go_quiet (fail)
          go_wp2
          go_roundw
          case rel => exact ⟨0 + 1, by omega, by go_num, by rw [HF.out]; rfl, below_drewN hb.out _⟩
          case measure => simp [intOf]; omega
        | succ k =>
          have hc5 : (Sm.run (0, false) (T.take (k + 1 + 1))).1 ≤ 5 := HC5'.out (k + 1 + 1)
          have hS : S.size = T.length + 10 := hzH.out
          have h1 : k + 1 < S.size := by omega
          have h2 : k < S.size := by omega
          have hI1 : (k : Int) + 1 < (T.length : Int) := by omega
          have hI3 : (0 : Int) < (k : Int) + 1 := by omega
          have HE : Hid (((S[k + 1].toNat : Int) == (S[k].toNat : Int)) = (T[k + 1] == T[k])) := by
            show _ = _
            rw [HB.out (k + 1) h1 hlt, HB.out k h2 (by omega), Sm.sign_eq]
          have hx1 := fun W => run_idx (P := Tryd.prog) 9 Tryd.underlying9 S (k + 1) ((k : Int) + 1) (by omega) h1 W
          have hx2 := fun W => run_idx (P := Tryd.prog) 9 Tryd.underlying9 S k (k : Int) rfl h2 W
          by_cases he : T[k + 1] = T[k]
          · have t1 : ((S[k + 1].toNat : Int) == (S[k].toNat : Int)) = true := by rw [HE.out, he]; simp
            have HF : Hid (_) := Sm.run_again T k hlt he
            rw [HF.out] at hc5
            generalize hx : (Sm.run (0, false) (T.take (k + 1))).1 = x at *
            clear hx hS
            go_wp2_with fail
            go_quiet (fail)
            go_wp2
            go_roundw
            case rel => exact ⟨k + 1 + 1, by omega, by go_num, by rw [HF.out]; go_num, below_drewN hb.out _⟩
            case measure => simp [intOf]; omega
          · have t1 : ((S[k + 1].toNat : Int) == (S[k].toNat : Int)) = false := by rw [HE.out]; simp [he]
            have HF : Hid (_) := Sm.run_anew T k hlt he
            clear hc5 hS
            generalize hx : (Sm.run (0, false) (T.take (k + 1))).1 = x at *
            clear hx
            go_wp2_with fail
            go_quiet (fail)
            go_wp2
            go_roundw
            case rel => exact ⟨k + 1 + 1, by omega, by go_num, by rw [HF.out]; rfl, below_drewN hb.out _⟩
            case measure => simp [intOf]; omega
      · obtain rfl : k = T.length := by omega
        generalize hx : (Sm.run (0, false) (T.take T.length)).1 = x at *
        clear hx
        have HL1 : Hid (44 + 8 * d0.size ≤ T.length + 10) := HLL.out.1
        have HL2 : Hid (T.length + 10 ≤ 44 + 8 * d0.size + (44 + 8 * d0.size - 11) / 4) := HLL.out.2.1
        have l1 : ((44 : Int) + 8 * (d0.size : Int) ≤ (T.length : Int) + 10) := by have := HL1.out; omega
        have l2 : ((T.length : Int) + 10 ≤ 44 + 8 * (d0.size : Int) + (44 + 8 * (d0.size : Int) - 11) / 4) := by have := HL2.out; omega
        have hx0 : ∀ W, (Instr.index 9 (.string S) (.int .i64 0)).run Tryd.prog W = .ok (.int .u8 48) W := fun W => by
          have hS : S.size = T.length + 10 := hzH.out
          have h := run_idx (P := Tryd.prog) 9 Tryd.underlying9 S 0 0 rfl (by omega) W
          rw [HB.out 0 (by omega) (by omega)] at h
          obtain ⟨t, ht⟩ := ht0.out
          have e : T[0]'(by omega) = false := by simp [ht]
          rw [e] at h
          exact h
        clear f0
        go_wp2
        go_ret
        exact ⟨rfl, hb.out⟩
  · skip
    go_enter Tryd.func3, Tryd.ntmps3
    go_wp2_with (first | (go_at_call 7; refine (known4_any _ HT.out).mono ?_; rintro e w' ⟨rfl, hb'⟩; replace La : Hid (Lies _ _ _ _ _ _) := (by first | exact Lies.on La.out hb' | exact Lies.on (Lies.alloc La.out _) hb'); replace HT : Hid (Tab _) := (by first | exact HT.out.below hb' | exact (HT.out.alloc _).below hb'); replace hA : Hid (Below W.heap.size W _) := (by first | exact below_join hA.out hb' | exact below_join (hA.out.alloc hA.out.size _) hb'); (try clear La0 La1 La2 La3 LaL); have La0 := La.out.c0; have La1 := La.out.c1; have La2 := La.out.c2; have La3 := La.out.c3; have LaL := La.out.lt; clear hb') | (go_at_call 9; refine (few4_any _ _ _ _ _).mono ?_; rintro e w' ⟨rfl, hb'⟩; replace La : Hid (Lies _ _ _ _ _ _) := (by first | exact Lies.on La.out hb' | exact Lies.on (Lies.alloc La.out _) hb'); replace HT : Hid (Tab _) := (by first | exact HT.out.below hb' | exact (HT.out.alloc _).below hb'); replace hA : Hid (Below W.heap.size W _) := (by first | exact below_join hA.out hb' | exact below_join (hA.out.alloc hA.out.size _) hb'); (try clear La0 La1 La2 La3 LaL); have La0 := La.out.c0; have La1 := La.out.c1; have La2 := La.out.c2; have La3 := La.out.c3; have LaL := La.out.lt; clear hb') | (go_at_call 8; refine (HLn.out _ HT.out).mono ?_; rintro e w' ⟨rfl, hb'⟩; replace La : Hid (Lies _ _ _ _ _ _) := (by first | exact Lies.on La.out hb' | exact Lies.on (Lies.alloc La.out _) hb'); replace HT : Hid (Tab _) := (by first | exact HT.out.below hb' | exact (HT.out.alloc _).below hb'); replace hA : Hid (Below W.heap.size W _) := (by first | exact below_join hA.out hb' | exact below_join (hA.out.alloc hA.out.size _) hb'); (try clear La0 La1 La2 La3 LaL); have La0 := La.out.c0; have La1 := La.out.c1; have La2 := La.out.c2; have La3 := La.out.c3; have LaL := La.out.lt; clear hb') | (go_at_call 10; refine (HC.out _ HT.out).mono ?_; rintro e w' ⟨rfl, hb'⟩; replace La : Hid (Lies _ _ _ _ _ _) := (by first | exact Lies.on La.out hb' | exact Lies.on (Lies.alloc La.out _) hb'); replace HT : Hid (Tab _) := (by first | exact HT.out.below hb' | exact (HT.out.alloc _).below hb'); replace hA : Hid (Below W.heap.size W _) := (by first | exact below_join hA.out hb' | exact below_join (hA.out.alloc hA.out.size _) hb'); (try clear La0 La1 La2 La3 LaL); have La0 := La.out.c0; have La1 := La.out.c1; have La2 := La.out.c2; have La3 := La.out.c3; have LaL := La.out.lt; clear hb'))
    clear La0 La1 La2 La3 LaL HT La HC HLn
    go_loopw [5, 7] (fun u i wr => ∃ k : Nat, k ≤ T.length ∧ i = .int .i64 k ∧ u = .int .i64 (Sm.run (0, false) (T.take k)).1 ∧ Hid (Below W.heap.size W wr)) (fun _ i _ => T.length - (intOf i).toNat)
    case atStart => exact ⟨0, Nat.zero_le _, rfl, rfl, hA⟩
    case round =>
      obtain ⟨k, hk, rfl, rfl, hb⟩ := hrel
      by_cases hlt : k < T.length
      · cases k with
        | zero =>
          have HF : Hid ((Sm.run (0, false) (T.take (0 + 1))).1 = 1) := Sm.run_first T hlt
          go_wp2_with fail
          go_quiet (fail)
          go_wp2
          go_roundw
          case rel => exact ⟨0 + 1, by omega, by go_num, by rw [HF.out]; rfl, below_drewN hb.out _⟩
          case measure => simp [intOf]; omega
        | succ k =>
          have hc5 : (Sm.run (0, false) (T.take (k + 1 + 1))).1 ≤ 5 := HC5'.out (k + 1 + 1)
          have hS : S.size = T.length + 10 := hzH.out
          have h1 : k + 1 < S.size := by omega
          have h2 : k < S.size := by omega
          have hI1 : (k : Int) + 1 < (T.length : Int) := by omega
          have hI3 : (0 : Int) < (k : Int) + 1 := by omega
          have HE : Hid (((S[k + 1].toNat : Int) == (S[k].toNat : Int)) = (T[k + 1] == T[k])) := by
            show _ = _
            rw [HB.out (k + 1) h1 hlt, HB.out k h2 (by omega), Sm.sign_eq]
          have hx1 := fun W => run_idx (P := Tryd.prog) 9 Tryd.underlying9 S (k + 1) ((k : Int) + 1) (by omega) h1 W
          have hx2 := fun W => run_idx (P := Tryd.prog) 9 Tryd.underlying9 S k (k : Int) rfl h2 W
          by_cases he : T[k + 1] = T[k]
          · have t1 : ((S[k + 1].toNat : Int) == (S[k].toNat : Int)) = true := by rw [HE.out, he]; simp
            have HF : Hid (_) := Sm.run_again T k hlt he
            rw [HF.out] at hc5
            generalize hx : (Sm.run (0, false) (T.take (k + 1))).1 = x at *
            clear hx hS
            go_wp2_with fail
            go_quiet (fail)
            go_wp2
            go_roundw
            case rel => exact ⟨k + 1 + 1, by omega, by go_num, by rw [HF.out]; go_num, below_drewN hb.out _⟩
            case measure => simp [intOf]; omega
          · have t1 : ((S[k + 1].toNat : Int) == (S[k].toNat : Int)) = false := by rw [HE.out]; simp [he]
            have HF : Hid (_) := Sm.run_anew T k hlt he
            clear hc5 hS
            generalize hx : (Sm.run (0, false) (T.take (k + 1))).1 = x at *
            clear hx
            go_wp2_with fail
            go_quiet (fail)
            go_wp2
            go_roundw
            case rel => exact ⟨k + 1 + 1, by omega, by go_num, by rw [HF.out]; rfl, below_drewN hb.out _⟩
            case measure => simp [intOf]; omega
      · obtain rfl : k = T.length := by omega
        generalize hx : (Sm.run (0, false) (T.take T.length)).1 = x at *
        clear hx
        have HL1 : Hid (64 + 8 * d0.size ≤ T.length + 10) := HLL.out.1
        have HL2 : Hid (T.length + 10 ≤ 64 + 8 * d0.size + (64 + 8 * d0.size - 11) / 4) := HLL.out.2.1
        have l1 : ((64 : Int) + 8 * (d0.size : Int) ≤ (T.length : Int) + 10) := by have := HL1.out; omega
        have l2 : ((T.length : Int) + 10 ≤ 64 + 8 * (d0.size : Int) + (64 + 8 * (d0.size : Int) - 11) / 4) := by have := HL2.out; omega
        have hx0 : ∀ W, (Instr.index 9 (.string S) (.int .i64 0)).run Tryd.prog W = .ok (.int .u8 48) W := fun W => by
          have hS : S.size = T.length + 10 := hzH.out
          have h := run_idx (P := Tryd.prog) 9 Tryd.underlying9 S 0 0 rfl (by omega) W
          rw [HB.out 0 (by omega) (by omega)] at h
          obtain ⟨t, ht⟩ := ht0.out
          have e : T[0]'(by omega) = false := by simp [ht]
          rw [e] at h
          exact h
        clear f0
        go_wp2
        go_ret
        exact ⟨rfl, hb.out⟩
theorem walk (x0 : Bool) (n0 : Int) (r0 : Bool) (d0 : ByteArray) (w0 : (Lit.int .u32 n0).wf = true) (u0 : d0.size ≤ maxLen) (W : World) (hT : Tab W) :
    Calls Tryd.prog 3 #[.agg #[.bool x0, .int .u32 n0, .bool r0, .string d0]] W fun e w' => e = .returned (.bool true) ∧ Below W.heap.size W w' := by
  obtain ⟨m0, rfl, h0⟩ := u32_nat w0
  exact walkN x0 m0 r0 d0 h0 W hT
theorem own : ownKnob Tryd.prog.godebug = none := by kernel_rfl
theorem contract (H : Type) (enc : TypeId × Value → H) (W : World) (base : Nat) (args : Array Value) (ds gs : List (DataW H)) (before : List MemPlace)
    (hval0 : ∀ (j : Nat) t v, Tryd.f3.params[j]? = some t → args[j]? = some v → Value.okWide Tryd.prog W .any base t v)
    (hW : DataW.Whole enc Tryd.prog Tryd.f3.params.toList Rows.codeLongSpec.vars false W args.toList ds gs before) (hL : laidMetH Tryd.prog Rows.codeLongRow.laid W) :
    Calls Tryd.prog 3 args W fun e W' => ∃ v, e = .returned v ∧ Rows.codeLongSpec.post enc Tryd.prog Tryd.f3 false true false false W args v W' := by
  have hval : ∀ (j : Nat) t v, Tryd.f3.params[j]? = some t → args[j]? = some v → Value.okWide Tryd.prog W .any base t v := hval0
  have hW' := hW
  obtain ⟨p, q, hA0, hV, rfl, hfz, hnd⟩ := hW
  have hA : DataW.TrodAll enc Tryd.prog W 0 (fun _ => true) true Tryd.f3.params.toList args.toList ds p := hA0
  rw [Tryd.params3] at hA hval
  obtain ⟨v0, vs0, d0, ds0, p0, q0, hargs, rfl, rfl, h0, rr0⟩ := trodAll_cons hA
  obtain ⟨rfl, rfl, rfl⟩ := trodAll_nil rr0
  obtain rfl : args = #[v0] := by cases args; simp_all
  obtain ⟨rfl, rfl⟩ := trodVars_none hV
  obtain ⟨e0, e1, e2, e3, y0, y1, y2, y3, n0, rfl, rfl, rfl, k0, k1, k2, k3⟩ := Joins.open_agg4 Tryd.underlying24 (by kernel_rfl) (by kernel_rfl) (hval 0 24 v0 rfl rfl) h0
  obtain ⟨x0, hx0, rfl⟩ := DataW.trod_bool Tryd.underlying4 k0
  obtain ⟨n0, hx1, rfl, w0⟩ := DataW.trod_int Tryd.underlying22 k1
  obtain ⟨r0, hx2, rfl⟩ := DataW.trod_bool Tryd.underlying4 k2
  obtain ⟨d0, hx3, rfl, u0⟩ := DataW.trod_string Tryd.underlying9 k3
  obtain rfl := List.singleton_inj.1 hx0
  obtain rfl := List.singleton_inj.1 hx1
  obtain rfl := List.singleton_inj.1 hx2
  obtain rfl := List.singleton_inj.1 hx3
  clear k0 k1 k2 k3 hx0 hx1 hx2 hx3
  clear hA0 hval0
  refine (walk x0 n0 r0 d0 w0 u0 W (tab_of_laid hL)).mono fun e W' ⟨he, bel⟩ => ?_
  subst he
  exact ⟨_, rfl, _, _, _, [], _, [], hW', trodAll_mk1 (shut_bool Tryd.underlying4 _), (trodAll_cons_mk (shut_frame w0 u0) trodAll_mk0), rfl, bel.frame _, fun h => by cases h⟩
theorem laid_met (os : Os) : laidMet Tryd.prog Rows.codeLongRow.laid ((tabWorld os).forCall (fun _ _ => 0) ⟨#[], #[.agg #[.bool false, .int .u32 0, .bool false, .string ByteArray.empty]], []⟩).memory :=
  laidMet_of_run' 8 (by kernel_rfl) (by kernel_rfl)
theorem reads (os : Os) {H : Type} (enc : TypeId × Value → H) : ∃ places, DataW.whole enc Tryd.prog ((tabWorld os).forCall (fun _ _ => 0) ⟨#[], #[.agg #[.bool false, .int .u32 0, .bool false, .string ByteArray.empty]], []⟩).memory Tryd.f3.params.toList Rows.codeLongSpec.vars false #[Value.agg #[.bool false, .int .u32 0, .bool false, .string ByteArray.empty]].toList 8 = some ([.agg [.lit (.bool false), .lit (.int .u32 0), .lit (.bool false), .lit (.string [])]], [], places) :=
  ⟨[], by kernel_rfl⟩
set_option maxRecDepth 100000 in
theorem lifted (os : Os) (started : os.Started) (H : Type) (enc : TypeId × Value → H) (F : Stop.Interp) :
    ReturnsInHanded {} Tryd.checked os 3 .any ((OpenSpec.ofChange Rows.codeLongSpec).preRow enc Tryd.prog Tryd.f3 Rows.codeLongRow.domain false Rows.codeLongRow.laid) (((OpenSpec.ofChange Rows.codeLongSpec).at F).post enc Tryd.prog Tryd.f3 false true false false) := by
  obtain ⟨places, hx⟩ := reads os enc
  refine returnsInHanded_of_row (C := Tryd.checked) (s := OpenSpec.ofChange Rows.codeLongSpec) own started (by kernel_rfl) Tryd.func3
    (witness_row_at (enc := enc) (C := Tryd.checked) false (tabWorld os) #[.agg #[.bool false, .int .u32 0, .bool false, .string ByteArray.empty]] rfl (by kernel_rfl) (by kernel_rfl) (by kernel_rfl)
      (OpenSpec.preRow_of_cond 8 hx (by kernel_rfl) (fun k hk => by cases hk) (by kernel_rfl) (laid_met os))) ?_
  intro W base args ds gs before hval hW _ _ _ hL _ _
  exact contract H enc W base args ds gs before hval hW hL
theorem said : Rows.CodeLongSaid :=
  OpenClaim.holds_of_cond 3 Tryd.f3 rfl rfl rfl rfl rfl rfl rfl ⟨rfl, rfl, rfl, rfl, rfl⟩ rfl rfl rfl rfl rfl (by kernel_rfl) Tryd.func3 (by kernel_rfl)
    (of_decide_eq_true (by kernel_rfl)) (by unfold Func.isWrapper; first | (rw [if_pos (by decide +kernel)]; kernel_rfl) | (rw [if_neg (by decide +kernel)]; exact ⟨rfl, rfl⟩))
    (fun os started H enc _ F => by rw [OpenClaim.pre_eq_preRow]; exact lifted os started H enc F)
theorem plain (f : FuncId) (fn : Func) (hf : Tryd.pinned.checked.prog.funcNamed "ostinato/ostinatolaw4.CodeLong" = some f) (hfn : Tryd.pinned.checked.prog.funcs[f]? = some fn) :
    false = Tryd.pinned.checked.prog.looks [] ∧ ∀ (j : Nat) t, fn.params[j]? = some t → Tryd.pinned.checked.prog.wantsStandIn t = false := by
  obtain rfl : f = 3 := Option.some.inj ((show Tryd.prog.funcNamed "ostinato/ostinatolaw4.CodeLong" = some 3 by kernel_rfl).symm.trans hf) |>.symm
  obtain rfl : fn = Tryd.f3 := (Option.some.inj (Tryd.func3.symm.trans hfn)).symm
  refine ⟨by kernel_rfl, fun j t ht => ?_⟩
  rw [Tryd.params3] at ht
  have hm : t ∈ [24] := by simpa using Array.mem_of_getElem? ht
  have hall : ([24].all fun u => !Tryd.prog.wantsStandIn u) = true := by kernel_rfl
  exact (show Tryd.prog.wantsStandIn t = false by simpa using List.all_eq_true.1 hall t hm)
end Go.Proofs.YtaphdehhnnglgabDoor.codeLong
namespace Go.Proofs.YtaphdehhnnglgabDoor
/-- The statement. -/
theorem codeLong_holds : Rows.CodeLongCardSaid :=
  Claim7.holds_tied_plain_at .later [] _ _ _ _ codeLong.said (fun _ h => by cases h) (by kernel_rfl) (fun _ h => by cases h) codeLong_row_tie rfl ⟨rfl, rfl⟩ (by kernel_rfl) rfl codeLong.plain (by kernel_rfl)
#print axioms codeLong_holds
end Go.Proofs.YtaphdehhnnglgabDoor
