/- CodeTurned: a frame's bits with one, two, three of them turned are read as the document says. No condition but the row's own: the table of widths holds what the program's text lays. -/
import Derived.Test.YtaphdehhnnglgaaDoorYk
import Derived.Test.YtaphdehhnnglgaaDoorV8
import Derived.Test.YtaphdehhnnglgaaDoorMe
import Derived.Test.YtaphdehhnnglgaaDoorTa
namespace Go.Proofs.YtaphdehhnnglgaaDoor.codeTurned
open Go.ChangeShapes Go.WideShapes Go.ChangeAt Go.RowKit
open Go.ChangeMaps (open_string shut_string)
set_option linter.unusedVariables false
theorem read_mk (l : List Bool) : Bm.read (ByteArray.mk (Bm.row l).toArray).data.toList = l := Bm.read_row l
set_option maxRecDepth 100000 in
set_option maxHeartbeats 8000000 in
theorem walkN (x0 : Bool) (n0 : Nat) (r0 : Bool) (d0 : ByteArray) (h0 : n0 < 4294967296) (a1 b1 c1 : Nat) (ha1 : a1 < 256) (hb1 : b1 < 256) (hc1 : c1 < 256) (a2 : Nat) (h2 : a2 < 256) (W : World) (hT : Tab W) :
    Calls Tryd.prog 5 #[.agg #[.bool x0, .int .u32 n0, .bool r0, .string d0], .agg #[.int .u8 (a1 : Int), .int .u8 (b1 : Int), .int .u8 (c1 : Int)], .int .u8 (a2 : Int)] W fun e w' => e = .returned (.bool true) ∧ Below W.heap.size W w' := by
  have HI : Hid (∀ w, Calls Tryd.prog 18 #[.agg #[.bool x0, .int .u32 n0, .bool r0, .string d0]] w fun e w' => e = .returned (.bool (Fm.isF x0 n0 r0 d0.data.toList)) ∧ Below w.heap.size w w') := fun w => refFIs_any x0 n0 r0 d0 w
  have HK : Hid (∀ w, Tab w → Calls Tryd.prog 15 #[.agg #[.bool x0, .int .u32 n0, .bool r0, .string d0]] w fun e w' => e = .returned (.string ⟨(Bm.row (Cm.ack x0 n0 r0 d0.data.toList)).toArray⟩) ∧ Below w.heap.size w w') := fun w hT => cAck_any x0 n0 r0 d0 w hT h0
  have HT : Hid (Tab _) := (hT.alloc (.cells #[.bool x0, .int .u32 n0, .bool r0, .string d0] 24)).alloc (.cells #[.int .u8 (a1 : Int), .int .u8 (b1 : Int), .int .u8 (c1 : Int)] 36)
  have hA : Hid (Below W.heap.size W _) := ((Below.refl _ _).alloc (Nat.le_refl _) (.cells #[.bool x0, .int .u32 n0, .bool r0, .string d0] 24)).alloc (by simp) (.cells #[.int .u8 (a1 : Int), .int .u8 (b1 : Int), .int .u8 (c1 : Int)] 36)
  have La : Hid (Lies _ _ _ _ _ _) := (Lies.new W x0 n0 r0 d0).alloc (.cells #[.int .u8 (a1 : Int), .int .u8 (b1 : Int), .int .u8 (c1 : Int)] 36)
  have Va : Hid (Arr3 _ _ _ _ _) := Arr3.new1 W (.cells #[.bool x0, .int .u32 n0, .bool r0, .string d0] 24) a1 b1 c1
  clear hT
  cases f0 : decide ((d0.size : Int) ≤ 20)
  case false =>
    go_enter Tryd.func5, Tryd.ntmps5
    go_wp2_with (first | (go_at_call 9; refine (known4_any _ HT.out).mono ?_; rintro e w' ⟨rfl, hb'⟩; replace La : Hid (Lies _ _ _ _ _ _) := (by first | exact Lies.on La.out hb' | exact Lies.on (Lies.alloc La.out _) hb'); replace Va : Hid (Arr3 _ _ _ _ _) := (by first | exact Arr3.on Va.out hb' | exact Arr3.on (Arr3.alloc Va.out _) hb'); replace HT : Hid (Tab _) := (by first | exact HT.out.below hb' | exact (HT.out.alloc _).below hb'); replace hA : Hid (Below W.heap.size W _) := (by first | exact below_join hA.out hb' | exact below_join (hA.out.alloc hA.out.size _) hb'); (try clear La0 La1 La2 La3 LaL); have La0 := La.out.c0; have La1 := La.out.c1; have La2 := La.out.c2; have La3 := La.out.c3; have LaL := La.out.lt; (try clear Va0 Va1 Va2 VaL); have Va0 := Va.out.c0; have Va1 := Va.out.c1; have Va2 := Va.out.c2; have VaL := Va.out.lt; clear hb') | (go_at_call 10; refine (few4_any _ _ _ _ _).mono ?_; rintro e w' ⟨rfl, hb'⟩; replace La : Hid (Lies _ _ _ _ _ _) := (by first | exact Lies.on La.out hb' | exact Lies.on (Lies.alloc La.out _) hb'); replace Va : Hid (Arr3 _ _ _ _ _) := (by first | exact Arr3.on Va.out hb' | exact Arr3.on (Arr3.alloc Va.out _) hb'); replace HT : Hid (Tab _) := (by first | exact HT.out.below hb' | exact (HT.out.alloc _).below hb'); replace hA : Hid (Below W.heap.size W _) := (by first | exact below_join hA.out hb' | exact below_join (hA.out.alloc hA.out.size _) hb'); (try clear La0 La1 La2 La3 LaL); have La0 := La.out.c0; have La1 := La.out.c1; have La2 := La.out.c2; have La3 := La.out.c3; have LaL := La.out.lt; (try clear Va0 Va1 Va2 VaL); have Va0 := Va.out.c0; have Va1 := Va.out.c1; have Va2 := Va.out.c2; have VaL := Va.out.lt; clear hb'))
    all_goals
      go_ret
      exact ⟨rfl, hA.out⟩
  cases i0 : Fm.isF x0 n0 r0 d0.data.toList
  case false =>
    rw [i0] at HI
    go_enter Tryd.func5, Tryd.ntmps5
    go_wp2_with (first | (go_at_call 9; refine (known4_any _ HT.out).mono ?_; rintro e w' ⟨rfl, hb'⟩; replace La : Hid (Lies _ _ _ _ _ _) := (by first | exact Lies.on La.out hb' | exact Lies.on (Lies.alloc La.out _) hb'); replace Va : Hid (Arr3 _ _ _ _ _) := (by first | exact Arr3.on Va.out hb' | exact Arr3.on (Arr3.alloc Va.out _) hb'); replace HT : Hid (Tab _) := (by first | exact HT.out.below hb' | exact (HT.out.alloc _).below hb'); replace hA : Hid (Below W.heap.size W _) := (by first | exact below_join hA.out hb' | exact below_join (hA.out.alloc hA.out.size _) hb'); (try clear La0 La1 La2 La3 LaL); have La0 := La.out.c0; have La1 := La.out.c1; have La2 := La.out.c2; have La3 := La.out.c3; have LaL := La.out.lt; (try clear Va0 Va1 Va2 VaL); have Va0 := Va.out.c0; have Va1 := Va.out.c1; have Va2 := Va.out.c2; have VaL := Va.out.lt; clear hb') | (go_at_call 10; refine (few4_any _ _ _ _ _).mono ?_; rintro e w' ⟨rfl, hb'⟩; replace La : Hid (Lies _ _ _ _ _ _) := (by first | exact Lies.on La.out hb' | exact Lies.on (Lies.alloc La.out _) hb'); replace Va : Hid (Arr3 _ _ _ _ _) := (by first | exact Arr3.on Va.out hb' | exact Arr3.on (Arr3.alloc Va.out _) hb'); replace HT : Hid (Tab _) := (by first | exact HT.out.below hb' | exact (HT.out.alloc _).below hb'); replace hA : Hid (Below W.heap.size W _) := (by first | exact below_join hA.out hb' | exact below_join (hA.out.alloc hA.out.size _) hb'); (try clear La0 La1 La2 La3 LaL); have La0 := La.out.c0; have La1 := La.out.c1; have La2 := La.out.c2; have La3 := La.out.c3; have LaL := La.out.lt; (try clear Va0 Va1 Va2 VaL); have Va0 := Va.out.c0; have Va1 := Va.out.c1; have Va2 := Va.out.c2; have VaL := Va.out.lt; clear hb') | (go_at_call 18; refine (HI.out _).mono ?_; rintro e w' ⟨rfl, hb'⟩; replace La : Hid (Lies _ _ _ _ _ _) := (by first | exact Lies.on La.out hb' | exact Lies.on (Lies.alloc La.out _) hb'); replace Va : Hid (Arr3 _ _ _ _ _) := (by first | exact Arr3.on Va.out hb' | exact Arr3.on (Arr3.alloc Va.out _) hb'); replace HT : Hid (Tab _) := (by first | exact HT.out.below hb' | exact (HT.out.alloc _).below hb'); replace hA : Hid (Below W.heap.size W _) := (by first | exact below_join hA.out hb' | exact below_join (hA.out.alloc hA.out.size _) hb'); (try clear La0 La1 La2 La3 LaL); have La0 := La.out.c0; have La1 := La.out.c1; have La2 := La.out.c2; have La3 := La.out.c3; have LaL := La.out.lt; (try clear Va0 Va1 Va2 VaL); have Va0 := Va.out.c0; have Va1 := Va.out.c1; have Va2 := Va.out.c2; have VaL := Va.out.lt; clear hb'))
    all_goals
      go_ret
      exact ⟨rfl, hA.out⟩
  rw [i0] at HI
  have e1 : Cm.ack x0 n0 r0 d0.data.toList = Cm.ack0 x0 n0 r0 d0.data.toList := by unfold Cm.ack; rw [i0]; rfl
  have hl := Cm.enc_len i0
  have hAE := Cm.length_ack0 x0 n0 r0 d0.data.toList
  have hda := Cm.dec_ack i0 []
  rw [List.append_nil] at hda
  rw [e1] at HK
  have hne1 : 44 ≤ (Cm.ack0 x0 n0 r0 d0.data.toList).length := by
    rw [hAE]
    have := hl.1
    split at this <;> omega
  have hne2 : (Cm.ack0 x0 n0 r0 d0.data.toList).length ≤ 200 := by rw [hAE]; exact hl.2.2
  obtain ⟨L, hL⟩ : ∃ L, (Cm.ack0 x0 n0 r0 d0.data.toList).length = L := ⟨_, rfl⟩
  have HDa : Hid (Cm.dec (Cm.ack0 x0 n0 r0 d0.data.toList) = ((x0, n0, r0, d0.data.toList), (Cm.enc0 x0 n0 r0 d0.data.toList).length, 0)) := hda
  have HL : Hid ((Cm.ack0 x0 n0 r0 d0.data.toList).length = L) := hL
  rw [hL] at hne1 hne2
  clear hl hAE hda e1 i0 hL
  generalize (Cm.enc0 x0 n0 r0 d0.data.toList).length = en at *
  generalize Cm.ack0 x0 n0 r0 d0.data.toList = ak at *
  obtain ⟨q, hq⟩ : ∃ q, a2 % 4 = q := ⟨_, rfl⟩
  have hq3 : q ≤ 3 := by omega
  have hqI : (a2 : Int) % 4 = (q : Int) := by omega
  clear hq
  go_enter Tryd.func5, Tryd.ntmps5
  go_wp2_with (first | (go_at_call 9; refine (known4_any _ HT.out).mono ?_; rintro e w' ⟨rfl, hb'⟩; replace La : Hid (Lies _ _ _ _ _ _) := (by first | exact Lies.on La.out hb' | exact Lies.on (Lies.alloc La.out _) hb'); replace Va : Hid (Arr3 _ _ _ _ _) := (by first | exact Arr3.on Va.out hb' | exact Arr3.on (Arr3.alloc Va.out _) hb'); replace HT : Hid (Tab _) := (by first | exact HT.out.below hb' | exact (HT.out.alloc _).below hb'); replace hA : Hid (Below W.heap.size W _) := (by first | exact below_join hA.out hb' | exact below_join (hA.out.alloc hA.out.size _) hb'); (try clear La0 La1 La2 La3 LaL); have La0 := La.out.c0; have La1 := La.out.c1; have La2 := La.out.c2; have La3 := La.out.c3; have LaL := La.out.lt; (try clear Va0 Va1 Va2 VaL); have Va0 := Va.out.c0; have Va1 := Va.out.c1; have Va2 := Va.out.c2; have VaL := Va.out.lt; clear hb') | (go_at_call 10; refine (few4_any _ _ _ _ _).mono ?_; rintro e w' ⟨rfl, hb'⟩; replace La : Hid (Lies _ _ _ _ _ _) := (by first | exact Lies.on La.out hb' | exact Lies.on (Lies.alloc La.out _) hb'); replace Va : Hid (Arr3 _ _ _ _ _) := (by first | exact Arr3.on Va.out hb' | exact Arr3.on (Arr3.alloc Va.out _) hb'); replace HT : Hid (Tab _) := (by first | exact HT.out.below hb' | exact (HT.out.alloc _).below hb'); replace hA : Hid (Below W.heap.size W _) := (by first | exact below_join hA.out hb' | exact below_join (hA.out.alloc hA.out.size _) hb'); (try clear La0 La1 La2 La3 LaL); have La0 := La.out.c0; have La1 := La.out.c1; have La2 := La.out.c2; have La3 := La.out.c3; have LaL := La.out.lt; (try clear Va0 Va1 Va2 VaL); have Va0 := Va.out.c0; have Va1 := Va.out.c1; have Va2 := Va.out.c2; have VaL := Va.out.lt; clear hb') | (go_at_call 18; refine (HI.out _).mono ?_; rintro e w' ⟨rfl, hb'⟩; replace La : Hid (Lies _ _ _ _ _ _) := (by first | exact Lies.on La.out hb' | exact Lies.on (Lies.alloc La.out _) hb'); replace Va : Hid (Arr3 _ _ _ _ _) := (by first | exact Arr3.on Va.out hb' | exact Arr3.on (Arr3.alloc Va.out _) hb'); replace HT : Hid (Tab _) := (by first | exact HT.out.below hb' | exact (HT.out.alloc _).below hb'); replace hA : Hid (Below W.heap.size W _) := (by first | exact below_join hA.out hb' | exact below_join (hA.out.alloc hA.out.size _) hb'); (try clear La0 La1 La2 La3 LaL); have La0 := La.out.c0; have La1 := La.out.c1; have La2 := La.out.c2; have La3 := La.out.c3; have LaL := La.out.lt; (try clear Va0 Va1 Va2 VaL); have Va0 := Va.out.c0; have Va1 := Va.out.c1; have Va2 := Va.out.c2; have VaL := Va.out.lt; clear hb') | (go_at_call 15; refine (HK.out _ HT.out).mono ?_; rintro e w' ⟨rfl, hb'⟩; replace La : Hid (Lies _ _ _ _ _ _) := (by first | exact Lies.on La.out hb' | exact Lies.on (Lies.alloc La.out _) hb'); replace Va : Hid (Arr3 _ _ _ _ _) := (by first | exact Arr3.on Va.out hb' | exact Arr3.on (Arr3.alloc Va.out _) hb'); replace HT : Hid (Tab _) := (by first | exact HT.out.below hb' | exact (HT.out.alloc _).below hb'); replace hA : Hid (Below W.heap.size W _) := (by first | exact below_join hA.out hb' | exact below_join (hA.out.alloc hA.out.size _) hb'); (try clear La0 La1 La2 La3 LaL); have La0 := La.out.c0; have La1 := La.out.c1; have La2 := La.out.c2; have La3 := La.out.c3; have LaL := La.out.lt; (try clear Va0 Va1 Va2 VaL); have Va0 := Va.out.c0; have Va1 := Va.out.c1; have Va2 := Va.out.c2; have VaL := Va.out.lt; clear hb'))
  clear HK HI
  have HTn : Hid (∀ (bs : List Bool) (p : Int) w, bs.length = L → Calls Tryd.prog 12 #[.string ⟨(Bm.row bs).toArray⟩, .int .i64 p] w fun e w' => e = .returned (.string ⟨(Bm.row (Bm.turn bs p)).toArray⟩) ∧ w' = w) := fun bs p w hb => by
    have h := refTurn_any ⟨(Bm.row bs).toArray⟩ p w (by rw [size_rowr]; omega)
    rw [read_mk] at h
    exact h
  go_loopw [7, 8] (fun s i wr => ∃ (k : Nat) (bs : List Bool), k ≤ q ∧ i = .int .i64 k ∧ s = .string ⟨(Bm.row bs).toArray⟩ ∧ Hid (bs.length = L) ∧ Hid (k = 0 → bs = ak) ∧ Hid (Lies wr W.heap.size x0 n0 r0 d0) ∧ Hid (Arr3 wr (W.heap.size + 1) a1 b1 c1) ∧ Hid (Tab wr) ∧ Hid (Below W.heap.size W wr)) (fun _ i _ => q - (intOf i).toNat)
  case atStart => exact ⟨0, ak, Nat.zero_le _, rfl, rfl, HL, fun _ => rfl, La, Va, HT, hA⟩
  case round =>
    obtain ⟨k, bs, hk, rfl, rfl, Hbl, Hak, La, Va, HT, hA⟩ := hrel
    by_cases hlt : k < q
    · have hsz : (ByteArray.mk (Bm.row bs).toArray).size = L := by rw [size_rowr]; exact Hbl.out
      have HTk : Hid (∀ (p : Int) w, Calls Tryd.prog 12 #[.string ⟨(Bm.row bs).toArray⟩, .int .i64 p] w fun e w' => e = .returned (.string ⟨(Bm.row (Bm.turn bs p)).toArray⟩) ∧ w' = w) := fun p w => HTn.out bs p w Hbl.out
      have HLk : Hid (∀ p, (Bm.turn bs p).length = L) := fun p => by rw [Bm.length_turn]; exact Hbl.out
      have Va0 := Va.out.c0
      have Va1 := Va.out.c1
      have Va2 := Va.out.c2
      have VaL := Va.out.lt
      clear HTn Hak Hbl
      generalize ByteArray.mk (Bm.row bs).toArray = S at *
      obtain rfl | rfl | rfl : k = 0 ∨ k = 1 ∨ k = 2 := by omega
      · go_wp2_with fail
        refine (HTk.out _ _).mono ?_
        rintro e w1 ⟨rfl, rfl⟩
        go_wp2_with fail
        go_roundw
        case rel => exact ⟨1, Bm.turn bs _, by omega, by go_num, rfl, HLk.out _, fun h => absurd h (by decide), La, Va, HT, hA⟩
        case measure => simp [intOf]; omega
      · go_wp2_with fail
        refine (HTk.out _ _).mono ?_
        rintro e w1 ⟨rfl, rfl⟩
        go_wp2_with fail
        go_roundw
        case rel => exact ⟨2, Bm.turn bs _, by omega, by go_num, rfl, HLk.out _, fun h => absurd h (by decide), La, Va, HT, hA⟩
        case measure => simp [intOf]; omega
      · go_wp2_with fail
        refine (HTk.out _ _).mono ?_
        rintro e w1 ⟨rfl, rfl⟩
        go_wp2_with fail
        go_roundw
        case rel => exact ⟨3, Bm.turn bs _, by omega, by go_num, rfl, HLk.out _, fun h => absurd h (by decide), La, Va, HT, hA⟩
        case measure => simp [intOf]; omega
    · obtain rfl : k = q := by omega
      have hbs : (ByteArray.mk (Bm.row bs).toArray).size ≤ 200 := by rw [size_rowr, Hbl.out]; exact hne2
      have HP : Hid (∀ w, Tab w → Calls Tryd.prog 16 #[.string ⟨(Bm.row bs).toArray⟩] w fun e w' => e = .returned (cfv (Cm.dec bs)) ∧ Below w.heap.size w w') := fun w hT => by
        have h := cDec_any ⟨(Bm.row bs).toArray⟩ w hT (by omega)
        rw [read_mk] at h
        exact h
      have HQ : Hid (∀ w, Calls Tryd.prog 17 #[.string ⟨(Bm.row bs).toArray⟩] w fun e w' => e = .returned (fv (Cm.dec bs)) ∧ Below w.heap.size w w') := fun w => by
        have h := rdecode_any ⟨(Bm.row bs).toArray⟩ w (by omega)
        rw [read_mk] at h
        exact h
      have HR : Hid (k = 0 → Cm.dec bs = ((x0, n0, r0, d0.data.toList), en, 0)) := fun h => by rw [Hak.out h]; exact HDa.out
      clear HTn Hak Hbl HDa HL hbs
      generalize ByteArray.mk (Bm.row bs).toArray = S at *
      generalize Cm.dec bs = R at *
      have La0 := La.out.c0
      have La1 := La.out.c1
      have La2 := La.out.c2
      have La3 := La.out.c3
      have LaL := La.out.lt
      by_cases k0 : k = 0
      · subst k0
        have hR := HR.out rfl
        subst hR
        unfold cfv at HP
        unfold fv at HQ
        simp only at HP HQ
        have hD : ByteArray.mk d0.data.toList.toArray = d0 := by cases d0; simp
        rw [hD] at HP HQ
        clear HR hD
        go_wp2_with fail
        refine (HP.out _ HT.out).mono ?_
        rintro e w2 ⟨rfl, hb2⟩
        replace La : Hid (Lies _ _ _ _ _ _) := La.out.on hb2
        replace hA : Hid (Below W.heap.size W _) := below_join hA.out hb2
        clear hb2 HT Va La0 La1 La2 La3 LaL
        have La0 := La.out.c0
        have La1 := La.out.c1
        have La2 := La.out.c2
        have La3 := La.out.c3
        have LaL := La.out.lt
        go_wp2_with fail
        refine (HQ.out _).mono ?_
        rintro e w3 ⟨rfl, hb3⟩
        have Lb : Hid (Lies w3 w2.heap.size x0 n0 r0 d0) := (Lies.new w2 x0 n0 r0 d0).on hb3
        replace La : Hid (Lies _ _ _ _ _ _) := (Lies.alloc La.out _).on hb3
        replace hA : Hid (Below W.heap.size W _) := below_join (hA.out.alloc hA.out.size _) hb3
        clear hb3 La0 La1 La2 La3 LaL HP HQ
        have La0 := La.out.c0
        have La1 := La.out.c1
        have La2 := La.out.c2
        have La3 := La.out.c3
        have LaL := La.out.lt
        have Lb0 := Lb.out.c0
        have Lb1 := Lb.out.c1
        have Lb2 := Lb.out.c2
        have Lb3 := Lb.out.c3
        have LbL := Lb.out.lt
        go_wp2
        all_goals
          go_ret
          exact ⟨rfl, hA.out.alloc hA.out.size _⟩
      · have k0' : decide ((0 : Int) < (k : Int)) = true := decide_eq_true (by omega)
        have k0n : 0 < k := by omega
        obtain ⟨⟨x, n, r, d⟩, p, e0⟩ := R
        unfold cfv at HP
        unfold fv at HQ
        simp only at HP HQ
        generalize ByteArray.mk d.toArray = D at *
        clear HR k0 La La0 La1 La2 La3 LaL Va
        go_wp2_with fail
        refine (HP.out _ HT.out).mono ?_
        rintro e w2 ⟨rfl, hb2⟩
        replace hA : Hid (Below W.heap.size W _) := below_join hA.out hb2
        clear hb2 HT
        go_wp2_with fail
        refine (HQ.out _).mono ?_
        rintro e w3 ⟨rfl, hb3⟩
        have Lb : Hid (Lies w3 w2.heap.size x n r D) := (Lies.new w2 x n r D).on hb3
        replace hA : Hid (Below W.heap.size W _) := below_join (hA.out.alloc hA.out.size _) hb3
        clear hb3 HP HQ
        have Lb0 := Lb.out.c0
        have Lb1 := Lb.out.c1
        have Lb2 := Lb.out.c2
        have Lb3 := Lb.out.c3
        have LbL := Lb.out.lt
        go_wp2
        all_goals
          go_ret
          exact ⟨rfl, hA.out.alloc hA.out.size _⟩
theorem walk (x0 : Bool) (n0 : Int) (r0 : Bool) (d0 : ByteArray) (w0 : (Lit.int .u32 n0).wf = true) (u0 : d0.size ≤ maxLen) (a1 b1 c1 : Int) (w1 : (Lit.int .u8 a1).wf = true) (wb1 : (Lit.int .u8 b1).wf = true) (wc1 : (Lit.int .u8 c1).wf = true) (a2 : Int) (w2 : (Lit.int .u8 a2).wf = true) (W : World) (hT : Tab W) :
    Calls Tryd.prog 5 #[.agg #[.bool x0, .int .u32 n0, .bool r0, .string d0], .agg #[.int .u8 a1, .int .u8 b1, .int .u8 c1], .int .u8 a2] W fun e w' => e = .returned (.bool true) ∧ Below W.heap.size W w' := by
  obtain ⟨m0, rfl, h0⟩ := u32_nat w0
  obtain ⟨m1, rfl, h1⟩ := u8_nat w1
  obtain ⟨m2, rfl, h2⟩ := u8_nat wb1
  obtain ⟨m3, rfl, h3⟩ := u8_nat wc1
  obtain ⟨m4, rfl, h4⟩ := u8_nat w2
  exact walkN x0 m0 r0 d0 h0 m1 m2 m3 h1 h2 h3 m4 h4 W hT
theorem own : ownKnob Tryd.prog.godebug = none := by kernel_rfl
theorem contract (H : Type) (enc : TypeId × Value → H) (W : World) (base : Nat) (args : Array Value) (ds gs : List (DataW H)) (before : List MemPlace)
    (hval0 : ∀ (j : Nat) t v, Tryd.f5.params[j]? = some t → args[j]? = some v → Value.okWide Tryd.prog W .any base t v)
    (hW : DataW.Whole enc Tryd.prog Tryd.f5.params.toList Rows.codeTurnedSpec.vars false W args.toList ds gs before) (hL : laidMetH Tryd.prog Rows.codeTurnedRow.laid W) :
    Calls Tryd.prog 5 args W fun e W' => ∃ v, e = .returned v ∧ Rows.codeTurnedSpec.post enc Tryd.prog Tryd.f5 false true false false W args v W' := by
  have hval : ∀ (j : Nat) t v, Tryd.f5.params[j]? = some t → args[j]? = some v → Value.okWide Tryd.prog W .any base t v := hval0
  have hW' := hW
  obtain ⟨p, q, hA0, hV, rfl, hfz, hnd⟩ := hW
  have hA : DataW.TrodAll enc Tryd.prog W 0 (fun _ => true) true Tryd.f5.params.toList args.toList ds p := hA0
  rw [Tryd.params5] at hA hval
  obtain ⟨v0, vs0, d0, ds0, p0, q0, hargs, rfl, rfl, h0, rr0⟩ := trodAll_cons hA
  obtain ⟨v1, vs1, d1, ds1, p1, q1, rfl, rfl, rfl, h1, rr1⟩ := trodAll_cons rr0
  obtain ⟨v2, vs2, d2, ds2, p2, q2, rfl, rfl, rfl, h2, rr2⟩ := trodAll_cons rr1
  obtain ⟨rfl, rfl, rfl⟩ := trodAll_nil rr2
  obtain rfl : args = #[v0, v1, v2] := by cases args; simp_all
  obtain ⟨rfl, rfl⟩ := trodVars_none hV
  obtain ⟨e0, e1, e2, e3, y0, y1, y2, y3, n0, rfl, rfl, rfl, k0, k1, k2, k3⟩ := Joins.open_agg4 Tryd.underlying24 (by kernel_rfl) (by kernel_rfl) (hval 0 24 v0 rfl rfl) h0
  obtain ⟨x0, hx0, rfl⟩ := DataW.trod_bool Tryd.underlying4 k0
  obtain ⟨n0, hx1, rfl, w0⟩ := DataW.trod_int Tryd.underlying22 k1
  obtain ⟨r0, hx2, rfl⟩ := DataW.trod_bool Tryd.underlying4 k2
  obtain ⟨d0, hx3, rfl, u0⟩ := DataW.trod_string Tryd.underlying9 k3
  obtain rfl := List.singleton_inj.1 hx0
  obtain rfl := List.singleton_inj.1 hx1
  obtain rfl := List.singleton_inj.1 hx2
  obtain rfl := List.singleton_inj.1 hx3
  clear k0 k1 k2 k3 hx0 hx1 hx2 hx3
  obtain ⟨a1, b1, c1, rfl, rfl, rfl, w1, wb1, wc1⟩ := open_arr3 (hval 1 36 v1 rfl rfl) h1
  obtain ⟨a2, rfl, rfl, rfl, w2⟩ := open_int Tryd.underlying5 (hval 2 5 v2 rfl rfl) h2
  clear hA0 hval0
  refine (walk x0 n0 r0 d0 w0 u0 a1 b1 c1 w1 wb1 wc1 a2 w2 W (tab_of_laid hL)).mono fun e W' ⟨he, bel⟩ => ?_
  subst he
  exact ⟨_, rfl, _, _, _, [], _, [], hW', trodAll_mk1 (shut_bool Tryd.underlying4 _), (trodAll_cons_mk (shut_frame w0 u0) (trodAll_cons_mk (shut_arr3 w1 wb1 wc1) (trodAll_cons_mk (shut_int Tryd.underlying5 w2) trodAll_mk0))), rfl, bel.frame _, fun h => by cases h⟩
theorem laid_met (os : Os) : laidMet Tryd.prog Rows.codeTurnedRow.laid ((tabWorld os).forCall (fun _ _ => 0) ⟨#[], #[.agg #[.bool false, .int .u32 0, .bool false, .string ByteArray.empty], .agg #[.int .u8 0, .int .u8 0, .int .u8 0], .int .u8 0], []⟩).memory :=
  laidMet_of_run' 8 (by kernel_rfl) (by kernel_rfl)
theorem reads (os : Os) {H : Type} (enc : TypeId × Value → H) : ∃ places, DataW.whole enc Tryd.prog ((tabWorld os).forCall (fun _ _ => 0) ⟨#[], #[.agg #[.bool false, .int .u32 0, .bool false, .string ByteArray.empty], .agg #[.int .u8 0, .int .u8 0, .int .u8 0], .int .u8 0], []⟩).memory Tryd.f5.params.toList Rows.codeTurnedSpec.vars false #[Value.agg #[.bool false, .int .u32 0, .bool false, .string ByteArray.empty], .agg #[.int .u8 0, .int .u8 0, .int .u8 0], .int .u8 0].toList 8 = some ([.agg [.lit (.bool false), .lit (.int .u32 0), .lit (.bool false), .lit (.string [])], .agg [.lit (.int .u8 0), .lit (.int .u8 0), .lit (.int .u8 0)], .lit (.int .u8 0)], [], places) :=
  ⟨[], by kernel_rfl⟩
set_option maxRecDepth 100000 in
theorem lifted (os : Os) (started : os.Started) (H : Type) (enc : TypeId × Value → H) (F : Stop.Interp) :
    ReturnsInHanded {} Tryd.checked os 5 .any ((OpenSpec.ofChange Rows.codeTurnedSpec).preRow enc Tryd.prog Tryd.f5 Rows.codeTurnedRow.domain false Rows.codeTurnedRow.laid) (((OpenSpec.ofChange Rows.codeTurnedSpec).at F).post enc Tryd.prog Tryd.f5 false true false false) := by
  obtain ⟨places, hx⟩ := reads os enc
  refine returnsInHanded_of_row (C := Tryd.checked) (s := OpenSpec.ofChange Rows.codeTurnedSpec) own started (by kernel_rfl) Tryd.func5
    (witness_row_at (enc := enc) (C := Tryd.checked) false (tabWorld os) #[.agg #[.bool false, .int .u32 0, .bool false, .string ByteArray.empty], .agg #[.int .u8 0, .int .u8 0, .int .u8 0], .int .u8 0] rfl (by kernel_rfl) (by kernel_rfl) (by kernel_rfl)
      (OpenSpec.preRow_of_cond 8 hx (by kernel_rfl) (fun k hk => by cases hk) (by kernel_rfl) (laid_met os))) ?_
  intro W base args ds gs before hval hW _ _ _ hL _ _
  exact contract H enc W base args ds gs before hval hW hL
theorem said : Rows.CodeTurnedSaid :=
  OpenClaim.holds_of_cond 5 Tryd.f5 rfl rfl rfl rfl rfl rfl rfl ⟨rfl, rfl, rfl, rfl, rfl⟩ rfl rfl rfl rfl rfl (by kernel_rfl) Tryd.func5 (by kernel_rfl)
    (of_decide_eq_true (by kernel_rfl)) (by unfold Func.isWrapper; first | (rw [if_pos (by decide +kernel)]; kernel_rfl) | (rw [if_neg (by decide +kernel)]; exact ⟨rfl, rfl⟩))
    (fun os started H enc _ F => by rw [OpenClaim.pre_eq_preRow]; exact lifted os started H enc F)
theorem plain (f : FuncId) (fn : Func) (hf : Tryd.pinned.checked.prog.funcNamed "ostinato/ostinatolaw4.CodeTurned" = some f) (hfn : Tryd.pinned.checked.prog.funcs[f]? = some fn) :
    false = Tryd.pinned.checked.prog.looks [] ∧ ∀ (j : Nat) t, fn.params[j]? = some t → Tryd.pinned.checked.prog.wantsStandIn t = false := by
  obtain rfl : f = 5 := Option.some.inj ((show Tryd.prog.funcNamed "ostinato/ostinatolaw4.CodeTurned" = some 5 by kernel_rfl).symm.trans hf) |>.symm
  obtain rfl : fn = Tryd.f5 := (Option.some.inj (Tryd.func5.symm.trans hfn)).symm
  refine ⟨by kernel_rfl, fun j t ht => ?_⟩
  rw [Tryd.params5] at ht
  have hm : t ∈ [24, 36, 5] := by simpa using Array.mem_of_getElem? ht
  have hall : ([24, 36, 5].all fun u => !Tryd.prog.wantsStandIn u) = true := by kernel_rfl
  exact (show Tryd.prog.wantsStandIn t = false by simpa using List.all_eq_true.1 hall t hm)
end Go.Proofs.YtaphdehhnnglgaaDoor.codeTurned
namespace Go.Proofs.YtaphdehhnnglgaaDoor
/-- The statement. -/
theorem codeTurned_holds : Rows.CodeTurnedCardSaid :=
  Claim7.holds_tied_plain_at .later [] _ _ _ _ codeTurned.said (fun _ h => by cases h) (by kernel_rfl) (fun _ h => by cases h) codeTurned_row_tie rfl ⟨rfl, rfl⟩ (by kernel_rfl) rfl codeTurned.plain (by kernel_rfl)
#print axioms codeTurned_holds
end Go.Proofs.YtaphdehhnnglgaaDoor
