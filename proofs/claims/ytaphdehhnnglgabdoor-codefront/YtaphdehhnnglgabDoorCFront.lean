/- CodeFront: frames alike up to some field have the same first bits on the wire; frames and their bits are alike together. No condition but the row's own: the table of widths holds what the program's text lays. -/
import Derived.Test.YtaphdehhnnglgabDoorYk
import Derived.Test.YtaphdehhnnglgabDoorRw
import Derived.Test.YtaphdehhnnglgabDoorTq
import Derived.Test.YtaphdehhnnglgabDoorR4
namespace Go.Proofs.YtaphdehhnnglgabDoor.codeFront
open Go.ChangeShapes Go.WideShapes Go.ChangeAt Go.RowKit
open Go.ChangeMaps (open_string shut_string)
set_option linter.unusedVariables false
theorem enc_front (x : Bool) (n : Nat) (r : Bool) (d : List UInt8) : ∃ m, Cm.enc0 x n r d = Sm.stuff (Fm.arb0 x n r) ++ (m ++ Cm.ones 10) := by
  have h : ∃ l, Cm.plainOf (Fm.body0 x n r d) (Bm.crc (Fm.body0 x n r d)) = Fm.arb0 x n r ++ l := by
    generalize Bm.crc (Fm.body0 x n r d) = c
    unfold Cm.plainOf Fm.body0
    rw [List.append_assoc]
    exact ⟨_, rfl⟩
  obtain ⟨l, hl⟩ := h
  unfold Cm.enc0
  rw [hl]
  unfold Sm.stuff
  rw [Sm.stB_append, List.append_assoc]
  exact ⟨_, rfl⟩
theorem enc_inj {x : Bool} {n : Nat} {r : Bool} {d e : List UInt8} (hd : Fm.isF x n r d = true) (he : Fm.isF x n r e = true) (h : Cm.enc0 x n r d = Cm.enc0 x n r e) : d = e := by
  have h1 := Cm.dec_enc hd []
  have h2 := Cm.dec_enc he []
  rw [h, h2] at h1
  have h3 := congrArg (fun p => p.1.2.2.2) h1
  exact h3.symm
theorem cut_front (a b : List Bool) : (ByteArray.mk (Bm.row (a ++ b)).toArray).extract 0 a.length = ByteArray.mk (Bm.row a).toArray := by
  apply ByteArray.ext
  rw [ByteArray.data_extract]
  show (Bm.row (a ++ b)).toArray.extract 0 a.length = _
  rw [List.extract_toArray]
  apply congrArg
  rw [List.extract_eq_take_drop, List.drop_zero, Nat.sub_zero]
  unfold Bm.row
  rw [List.map_append, List.take_append_of_le_length (by simp), List.take_of_length_le (by simp)]
theorem cut_back (a : List Bool) : (ByteArray.mk (Bm.row (a ++ Cm.ones 10)).toArray).extract a.length (a.length + 10) = tenOnes := by
  apply ByteArray.ext
  rw [ByteArray.data_extract]
  show (Bm.row (a ++ Cm.ones 10)).toArray.extract a.length (a.length + 10) = _
  rw [List.extract_toArray]
  show _ = (Bm.row (Cm.ones 10)).toArray
  apply congrArg
  rw [List.extract_eq_take_drop]
  unfold Bm.row
  rw [List.map_append, List.drop_append, List.drop_of_length_le (by simp), List.nil_append, List.length_map, Nat.sub_self, List.drop_zero, List.take_of_length_le (by simp [Cm.ones])]
set_option maxRecDepth 100000 in
set_option maxHeartbeats 8000000 in
theorem walkN (x0 : Bool) (n0 : Nat) (r0 : Bool) (d0 : ByteArray) (h0 : n0 < 4294967296) (a1 : ByteArray) (W : World) (hT : Tab W) :
    Calls Tryd.prog 6 #[.agg #[.bool x0, .int .u32 n0, .bool r0, .string d0], .string a1] W fun e w' => e = .returned (.bool true) ∧ Below W.heap.size W w' := by
  have HI0 : Hid (∀ w, Calls Tryd.prog 14 #[.agg #[.bool x0, .int .u32 n0, .bool r0, .string d0]] w fun e w' => e = .returned (.bool (Fm.isF x0 n0 r0 d0.data.toList)) ∧ Below w.heap.size w w') := fun w => refFIs_any x0 n0 r0 d0 w
  have HI1 : Hid (∀ w, Calls Tryd.prog 14 #[.agg #[.bool x0, .int .u32 n0, .bool r0, .string a1]] w fun e w' => e = .returned (.bool (Fm.isF x0 n0 r0 a1.data.toList)) ∧ Below w.heap.size w w') := fun w => refFIs_any x0 n0 r0 a1 w
  have HC0 : Hid (∀ w, Tab w → Calls Tryd.prog 10 #[.agg #[.bool x0, .int .u32 n0, .bool r0, .string d0]] w fun e w' => e = .returned (.string ⟨(Bm.row (Cm.enc x0 n0 r0 d0.data.toList)).toArray⟩) ∧ Below w.heap.size w w') := fun w hT => cEnc_any x0 n0 r0 d0 w hT h0
  have HC1 : Hid (∀ w, Tab w → Calls Tryd.prog 10 #[.agg #[.bool x0, .int .u32 n0, .bool r0, .string a1]] w fun e w' => e = .returned (.string ⟨(Bm.row (Cm.enc x0 n0 r0 a1.data.toList)).toArray⟩) ∧ Below w.heap.size w w') := fun w hT => cEnc_any x0 n0 r0 a1 w hT h0
  have HA : Hid (∀ w, Calls Tryd.prog 16 #[.agg #[.bool x0, .int .u32 n0, .bool r0, .string d0]] w fun e w' => e = .returned (.string ⟨(Bm.row (Fm.arb x0 n0 r0 d0.data.toList)).toArray⟩) ∧ Below w.heap.size w w') := fun w => refFArb_any x0 n0 r0 d0 w h0
  have HT : Hid (Tab _) := hT.alloc (.cells #[.bool x0, .int .u32 n0, .bool r0, .string d0] 24)
  have hA : Hid (Below W.heap.size W _) := (Below.refl _ _).alloc (Nat.le_refl _) (.cells #[.bool x0, .int .u32 n0, .bool r0, .string d0] 24)
  have La : Hid (Lies _ _ _ _ _ _) := Lies.new W x0 n0 r0 d0
  clear hT
  cases f0 : decide ((d0.size : Int) ≤ 20)
  case false =>
    go_enter Tryd.func6, Tryd.ntmps6
    go_wp2_with fail
    refine (known4_any _ HT.out).mono ?_
    rintro e w1 ⟨rfl, hb1⟩
    replace La : Hid (Lies _ _ _ _ _ _) := La.out.on hb1
    replace HT : Hid (Tab _) := HT.out.below hb1
    replace hA : Hid (Below W.heap.size W _) := below_join hA.out hb1
    clear hb1
    have La0 := La.out.c0
    have La1 := La.out.c1
    have La2 := La.out.c2
    have La3 := La.out.c3
    have LaL := La.out.lt
    go_wp2_with fail
    have Lb : Hid (Lies _ _ _ _ _ _) := Lies.new w1 x0 n0 r0 a1
    replace La : Hid (Lies _ _ _ _ _ _) := La.out.alloc (.cells #[.bool x0, .int .u32 n0, .bool r0, .string a1] 24)
    replace HT : Hid (Tab _) := HT.out.alloc (.cells #[.bool x0, .int .u32 n0, .bool r0, .string a1] 24)
    replace hA : Hid (Below W.heap.size W _) := hA.out.alloc hA.out.size (.cells #[.bool x0, .int .u32 n0, .bool r0, .string a1] 24)
    clear La0 La1 La2 La3 LaL
    refine (few4_any _ _ _ _ _).mono ?_
    rintro e w2 ⟨rfl, hb2⟩
    replace La : Hid (Lies _ _ _ _ _ _) := La.out.on hb2
    replace Lb : Hid (Lies _ _ _ _ _ _) := Lb.out.on hb2
    replace HT : Hid (Tab _) := HT.out.below hb2
    replace hA : Hid (Below W.heap.size W _) := below_join hA.out hb2
    clear hb2
    have La0 := La.out.c0
    have La1 := La.out.c1
    have La2 := La.out.c2
    have La3 := La.out.c3
    have LaL := La.out.lt
    have Lb0 := Lb.out.c0
    have Lb1 := Lb.out.c1
    have Lb2 := Lb.out.c2
    have Lb3 := Lb.out.c3
    have LbL := Lb.out.lt
    go_wp2
    all_goals
      go_ret
      exact ⟨rfl, hA.out⟩
  cases f1 : decide ((a1.size : Int) ≤ 20)
  case false =>
    go_enter Tryd.func6, Tryd.ntmps6
    go_wp2_with fail
    refine (known4_any _ HT.out).mono ?_
    rintro e w1 ⟨rfl, hb1⟩
    replace La : Hid (Lies _ _ _ _ _ _) := La.out.on hb1
    replace HT : Hid (Tab _) := HT.out.below hb1
    replace hA : Hid (Below W.heap.size W _) := below_join hA.out hb1
    clear hb1
    have La0 := La.out.c0
    have La1 := La.out.c1
    have La2 := La.out.c2
    have La3 := La.out.c3
    have LaL := La.out.lt
    go_wp2_with fail
    have Lb : Hid (Lies _ _ _ _ _ _) := Lies.new w1 x0 n0 r0 a1
    replace La : Hid (Lies _ _ _ _ _ _) := La.out.alloc (.cells #[.bool x0, .int .u32 n0, .bool r0, .string a1] 24)
    replace HT : Hid (Tab _) := HT.out.alloc (.cells #[.bool x0, .int .u32 n0, .bool r0, .string a1] 24)
    replace hA : Hid (Below W.heap.size W _) := hA.out.alloc hA.out.size (.cells #[.bool x0, .int .u32 n0, .bool r0, .string a1] 24)
    clear La0 La1 La2 La3 LaL
    refine (few4_any _ _ _ _ _).mono ?_
    rintro e w2 ⟨rfl, hb2⟩
    replace La : Hid (Lies _ _ _ _ _ _) := La.out.on hb2
    replace Lb : Hid (Lies _ _ _ _ _ _) := Lb.out.on hb2
    replace HT : Hid (Tab _) := HT.out.below hb2
    replace hA : Hid (Below W.heap.size W _) := below_join hA.out hb2
    clear hb2
    have La0 := La.out.c0
    have La1 := La.out.c1
    have La2 := La.out.c2
    have La3 := La.out.c3
    have LaL := La.out.lt
    have Lb0 := Lb.out.c0
    have Lb1 := Lb.out.c1
    have Lb2 := Lb.out.c2
    have Lb3 := Lb.out.c3
    have LbL := Lb.out.lt
    go_wp2_with fail
    refine (few4_any _ _ _ _ _).mono ?_
    rintro e w3 ⟨rfl, hb3⟩
    replace La : Hid (Lies _ _ _ _ _ _) := La.out.on hb3
    replace Lb : Hid (Lies _ _ _ _ _ _) := Lb.out.on hb3
    replace HT : Hid (Tab _) := HT.out.below hb3
    replace hA : Hid (Below W.heap.size W _) := below_join hA.out hb3
    clear hb3 La0 La1 La2 La3 LaL Lb0 Lb1 Lb2 Lb3 LbL
    have La0 := La.out.c0
    have La1 := La.out.c1
    have La2 := La.out.c2
    have La3 := La.out.c3
    have LaL := La.out.lt
    have Lb0 := Lb.out.c0
    have Lb1 := Lb.out.c1
    have Lb2 := Lb.out.c2
    have Lb3 := Lb.out.c3
    have LbL := Lb.out.lt
    go_wp2
    all_goals
      go_ret
      exact ⟨rfl, hA.out⟩
  cases i0 : Fm.isF x0 n0 r0 d0.data.toList
  case false =>
    rw [i0] at HI0
    go_enter Tryd.func6, Tryd.ntmps6
    go_wp2_with fail
    refine (known4_any _ HT.out).mono ?_
    rintro e w1 ⟨rfl, hb1⟩
    replace La : Hid (Lies _ _ _ _ _ _) := La.out.on hb1
    replace HT : Hid (Tab _) := HT.out.below hb1
    replace hA : Hid (Below W.heap.size W _) := below_join hA.out hb1
    clear hb1
    have La0 := La.out.c0
    have La1 := La.out.c1
    have La2 := La.out.c2
    have La3 := La.out.c3
    have LaL := La.out.lt
    go_wp2_with fail
    have Lb : Hid (Lies _ _ _ _ _ _) := Lies.new w1 x0 n0 r0 a1
    replace La : Hid (Lies _ _ _ _ _ _) := La.out.alloc (.cells #[.bool x0, .int .u32 n0, .bool r0, .string a1] 24)
    replace HT : Hid (Tab _) := HT.out.alloc (.cells #[.bool x0, .int .u32 n0, .bool r0, .string a1] 24)
    replace hA : Hid (Below W.heap.size W _) := hA.out.alloc hA.out.size (.cells #[.bool x0, .int .u32 n0, .bool r0, .string a1] 24)
    clear La0 La1 La2 La3 LaL
    refine (few4_any _ _ _ _ _).mono ?_
    rintro e w2 ⟨rfl, hb2⟩
    replace La : Hid (Lies _ _ _ _ _ _) := La.out.on hb2
    replace Lb : Hid (Lies _ _ _ _ _ _) := Lb.out.on hb2
    replace HT : Hid (Tab _) := HT.out.below hb2
    replace hA : Hid (Below W.heap.size W _) := below_join hA.out hb2
    clear hb2
    have La0 := La.out.c0
    have La1 := La.out.c1
    have La2 := La.out.c2
    have La3 := La.out.c3
    have LaL := La.out.lt
    have Lb0 := Lb.out.c0
    have Lb1 := Lb.out.c1
    have Lb2 := Lb.out.c2
    have Lb3 := Lb.out.c3
    have LbL := Lb.out.lt
    go_wp2_with fail
    refine (few4_any _ _ _ _ _).mono ?_
    rintro e w3 ⟨rfl, hb3⟩
    replace La : Hid (Lies _ _ _ _ _ _) := La.out.on hb3
    replace Lb : Hid (Lies _ _ _ _ _ _) := Lb.out.on hb3
    replace HT : Hid (Tab _) := HT.out.below hb3
    replace hA : Hid (Below W.heap.size W _) := below_join hA.out hb3
    clear hb3 La0 La1 La2 La3 LaL Lb0 Lb1 Lb2 Lb3 LbL
    have La0 := La.out.c0
    have La1 := La.out.c1
    have La2 := La.out.c2
    have La3 := La.out.c3
    have LaL := La.out.lt
    have Lb0 := Lb.out.c0
    have Lb1 := Lb.out.c1
    have Lb2 := Lb.out.c2
    have Lb3 := Lb.out.c3
    have LbL := Lb.out.lt
    go_wp2_with fail
    refine (HI0.out _).mono ?_
    rintro e w4 ⟨rfl, hb4⟩
    replace La : Hid (Lies _ _ _ _ _ _) := La.out.on hb4
    replace Lb : Hid (Lies _ _ _ _ _ _) := Lb.out.on hb4
    replace HT : Hid (Tab _) := HT.out.below hb4
    replace hA : Hid (Below W.heap.size W _) := below_join hA.out hb4
    clear hb4 La0 La1 La2 La3 LaL Lb0 Lb1 Lb2 Lb3 LbL
    have La0 := La.out.c0
    have La1 := La.out.c1
    have La2 := La.out.c2
    have La3 := La.out.c3
    have LaL := La.out.lt
    have Lb0 := Lb.out.c0
    have Lb1 := Lb.out.c1
    have Lb2 := Lb.out.c2
    have Lb3 := Lb.out.c3
    have LbL := Lb.out.lt
    go_wp2
    all_goals
      go_ret
      exact ⟨rfl, hA.out⟩
  rw [i0] at HI0
  cases i1 : Fm.isF x0 n0 r0 a1.data.toList
  case false =>
    rw [i1] at HI1
    go_enter Tryd.func6, Tryd.ntmps6
    go_wp2_with fail
    refine (known4_any _ HT.out).mono ?_
    rintro e w1 ⟨rfl, hb1⟩
    replace La : Hid (Lies _ _ _ _ _ _) := La.out.on hb1
    replace HT : Hid (Tab _) := HT.out.below hb1
    replace hA : Hid (Below W.heap.size W _) := below_join hA.out hb1
    clear hb1
    have La0 := La.out.c0
    have La1 := La.out.c1
    have La2 := La.out.c2
    have La3 := La.out.c3
    have LaL := La.out.lt
    go_wp2_with fail
    have Lb : Hid (Lies _ _ _ _ _ _) := Lies.new w1 x0 n0 r0 a1
    replace La : Hid (Lies _ _ _ _ _ _) := La.out.alloc (.cells #[.bool x0, .int .u32 n0, .bool r0, .string a1] 24)
    replace HT : Hid (Tab _) := HT.out.alloc (.cells #[.bool x0, .int .u32 n0, .bool r0, .string a1] 24)
    replace hA : Hid (Below W.heap.size W _) := hA.out.alloc hA.out.size (.cells #[.bool x0, .int .u32 n0, .bool r0, .string a1] 24)
    clear La0 La1 La2 La3 LaL
    refine (few4_any _ _ _ _ _).mono ?_
    rintro e w2 ⟨rfl, hb2⟩
    replace La : Hid (Lies _ _ _ _ _ _) := La.out.on hb2
    replace Lb : Hid (Lies _ _ _ _ _ _) := Lb.out.on hb2
    replace HT : Hid (Tab _) := HT.out.below hb2
    replace hA : Hid (Below W.heap.size W _) := below_join hA.out hb2
    clear hb2
    have La0 := La.out.c0
    have La1 := La.out.c1
    have La2 := La.out.c2
    have La3 := La.out.c3
    have LaL := La.out.lt
    have Lb0 := Lb.out.c0
    have Lb1 := Lb.out.c1
    have Lb2 := Lb.out.c2
    have Lb3 := Lb.out.c3
    have LbL := Lb.out.lt
    go_wp2_with fail
    refine (few4_any _ _ _ _ _).mono ?_
    rintro e w3 ⟨rfl, hb3⟩
    replace La : Hid (Lies _ _ _ _ _ _) := La.out.on hb3
    replace Lb : Hid (Lies _ _ _ _ _ _) := Lb.out.on hb3
    replace HT : Hid (Tab _) := HT.out.below hb3
    replace hA : Hid (Below W.heap.size W _) := below_join hA.out hb3
    clear hb3 La0 La1 La2 La3 LaL Lb0 Lb1 Lb2 Lb3 LbL
    have La0 := La.out.c0
    have La1 := La.out.c1
    have La2 := La.out.c2
    have La3 := La.out.c3
    have LaL := La.out.lt
    have Lb0 := Lb.out.c0
    have Lb1 := Lb.out.c1
    have Lb2 := Lb.out.c2
    have Lb3 := Lb.out.c3
    have LbL := Lb.out.lt
    go_wp2_with fail
    refine (HI0.out _).mono ?_
    rintro e w4 ⟨rfl, hb4⟩
    replace La : Hid (Lies _ _ _ _ _ _) := La.out.on hb4
    replace Lb : Hid (Lies _ _ _ _ _ _) := Lb.out.on hb4
    replace HT : Hid (Tab _) := HT.out.below hb4
    replace hA : Hid (Below W.heap.size W _) := below_join hA.out hb4
    clear hb4 La0 La1 La2 La3 LaL Lb0 Lb1 Lb2 Lb3 LbL
    have La0 := La.out.c0
    have La1 := La.out.c1
    have La2 := La.out.c2
    have La3 := La.out.c3
    have LaL := La.out.lt
    have Lb0 := Lb.out.c0
    have Lb1 := Lb.out.c1
    have Lb2 := Lb.out.c2
    have Lb3 := Lb.out.c3
    have LbL := Lb.out.lt
    go_wp2_with fail
    refine (HI1.out _).mono ?_
    rintro e w5 ⟨rfl, hb5⟩
    replace La : Hid (Lies _ _ _ _ _ _) := La.out.on hb5
    replace Lb : Hid (Lies _ _ _ _ _ _) := Lb.out.on hb5
    replace HT : Hid (Tab _) := HT.out.below hb5
    replace hA : Hid (Below W.heap.size W _) := below_join hA.out hb5
    clear hb5 La0 La1 La2 La3 LaL Lb0 Lb1 Lb2 Lb3 LbL
    have La0 := La.out.c0
    have La1 := La.out.c1
    have La2 := La.out.c2
    have La3 := La.out.c3
    have LaL := La.out.lt
    have Lb0 := Lb.out.c0
    have Lb1 := Lb.out.c1
    have Lb2 := Lb.out.c2
    have Lb3 := Lb.out.c3
    have LbL := Lb.out.lt
    go_wp2
    all_goals
      go_ret
      exact ⟨rfl, hA.out⟩
  rw [i1] at HI1
  have e0 : Cm.enc x0 n0 r0 d0.data.toList = Cm.enc0 x0 n0 r0 d0.data.toList := by unfold Cm.enc; rw [i0]; rfl
  have e1 : Cm.enc x0 n0 r0 a1.data.toList = Cm.enc0 x0 n0 r0 a1.data.toList := by unfold Cm.enc; rw [i1]; rfl
  have ea : Fm.arb x0 n0 r0 d0.data.toList = Fm.arb0 x0 n0 r0 := by unfold Fm.arb; rw [i0]; rfl
  have l0 := (Cm.enc_len i0).2.2
  have l1 := (Cm.enc_len i1).2.2
  have Hinj : Hid (Cm.enc0 x0 n0 r0 d0.data.toList = Cm.enc0 x0 n0 r0 a1.data.toList → d0 = a1) := fun h => by
    have h2 := enc_inj i0 i1 h
    cases d0; cases a1
    congr 1
    exact Array.toList_inj.1 h2
  have Heq : Hid (d0 = a1 → Cm.enc0 x0 n0 r0 d0.data.toList = Cm.enc0 x0 n0 r0 a1.data.toList) := fun h => by rw [h]
  obtain ⟨m0, hm0⟩ := enc_front x0 n0 r0 d0.data.toList
  obtain ⟨m1, hm1⟩ := enc_front x0 n0 r0 a1.data.toList
  have la := Fm.length_arb0 x0 n0 r0
  have HS : Hid (∀ w, Calls Tryd.prog 15 #[.string ⟨(Bm.row (Fm.arb0 x0 n0 r0)).toArray⟩] w fun e w' => e = .returned (.string ⟨(Bm.row (Sm.stuff (Fm.arb0 x0 n0 r0))).toArray⟩) ∧ Below w.heap.size w w') := fun w => by
    have h := rstuff_any ⟨(Bm.row (Fm.arb0 x0 n0 r0)).toArray⟩ w (by rw [size_rowr, la]; split <;> omega)
    rw [read_mk] at h
    exact h
  rw [e0] at HC0
  rw [e1] at HC1
  rw [ea] at HA
  clear e0 e1 ea i0 i1 la
  generalize Cm.enc0 x0 n0 r0 d0.data.toList = P0 at *
  generalize Cm.enc0 x0 n0 r0 a1.data.toList = P1 at *
  generalize Sm.stuff (Fm.arb0 x0 n0 r0) = Q at *
  subst hm0 hm1
  generalize ByteArray.mk (Bm.row (Fm.arb0 x0 n0 r0)).toArray = A at *
  have c0 := cut_front Q (m0 ++ Cm.ones 10)
  have c1 := cut_front Q (m1 ++ Cm.ones 10)
  have b0 := cut_back (Q ++ m0)
  have b1 := cut_back (Q ++ m1)
  rw [List.append_assoc] at b0 b1
  have z0 := size_rowr (Q ++ (m0 ++ Cm.ones 10))
  have z1 := size_rowr (Q ++ (m1 ++ Cm.ones 10))
  have zq := size_rowr Q
  have hten : (Cm.ones 10).length = 10 := rfl
  rw [List.length_append, List.length_append, hten] at z0 z1 l0 l1
  rw [List.length_append] at b0 b1
  have HE : Hid ((ByteArray.mk (Bm.row (Q ++ (m0 ++ Cm.ones 10))).toArray).toList = (ByteArray.mk (Bm.row (Q ++ (m1 ++ Cm.ones 10))).toArray).toList → d0 = a1) := fun h => by
    apply Hinj.out
    rw [ByteArray.toList_eq, ByteArray.toList_eq] at h
    have h2 : Bm.row (Q ++ (m0 ++ Cm.ones 10)) = Bm.row (Q ++ (m1 ++ Cm.ones 10)) := h
    have h3 := congrArg Bm.read h2
    rw [Bm.read_row, Bm.read_row] at h3
    exact h3
  have HEq : Hid (d0 = a1 → ByteArray.mk (Bm.row (Q ++ (m0 ++ Cm.ones 10))).toArray = ByteArray.mk (Bm.row (Q ++ (m1 ++ Cm.ones 10))).toArray) := fun h => by rw [Heq.out h]
  rw [← zq] at c0 c1
  generalize ByteArray.mk (Bm.row (Q ++ (m0 ++ Cm.ones 10))).toArray = E0 at *
  generalize ByteArray.mk (Bm.row (Q ++ (m1 ++ Cm.ones 10))).toArray = E1 at *
  have hs0 : ∀ W, (Instr.slice 9 (.string E0) none (some (.int .i64 ((ByteArray.mk (Bm.row Q).toArray).size : Int))) none).run Tryd.prog W = .ok (.string ⟨(Bm.row Q).toArray⟩) W := fun W => by
    have h := run_slice_string_h (P := Tryd.prog) W 9 E0 Tryd.underlying9 .i64 ((ByteArray.mk (Bm.row Q).toArray).size : Int) (by omega) (by omega)
    rw [Int.toNat_natCast, c0] at h
    exact h
  have hs1 : ∀ W, (Instr.slice 9 (.string E1) none (some (.int .i64 ((ByteArray.mk (Bm.row Q).toArray).size : Int))) none).run Tryd.prog W = .ok (.string ⟨(Bm.row Q).toArray⟩) W := fun W => by
    have h := run_slice_string_h (P := Tryd.prog) W 9 E1 Tryd.underlying9 .i64 ((ByteArray.mk (Bm.row Q).toArray).size : Int) (by omega) (by omega)
    rw [Int.toNat_natCast, c1] at h
    exact h
  have ht0 : ∀ W, (Instr.slice 9 (.string E0) (some (.int .i64 ((E0.size : Int) - 10))) none none).run Tryd.prog W = .ok (.string tenOnes) W := fun W => by
    have h := run_slice_string_l (P := Tryd.prog) W 9 E0 Tryd.underlying9 .i64 ((E0.size : Int) - 10) (by omega) (by omega)
    rw [show ((E0.size : Int) - 10).toNat = Q.length + m0.length from by omega, show E0.size = Q.length + m0.length + 10 from by omega, b0] at h
    rw [show (E0.size : Int) = ((Q.length + m0.length + 10 : Nat) : Int) from by omega]
    exact h
  have ht1 : ∀ W, (Instr.slice 9 (.string E1) (some (.int .i64 ((E1.size : Int) - 10))) none none).run Tryd.prog W = .ok (.string tenOnes) W := fun W => by
    have h := run_slice_string_l (P := Tryd.prog) W 9 E1 Tryd.underlying9 .i64 ((E1.size : Int) - 10) (by omega) (by omega)
    rw [show ((E1.size : Int) - 10).toNat = Q.length + m1.length from by omega, show E1.size = Q.length + m1.length + 10 from by omega, b1] at h
    rw [show (E1.size : Int) = ((Q.length + m1.length + 10 : Nat) : Int) from by omega]
    exact h
  have y0 : 10 ≤ E0.size ∧ E0.size ≤ 200 := by omega
  have y1 : 10 ≤ E1.size ∧ E1.size ≤ 200 := by omega
  have y2 : (ByteArray.mk (Bm.row Q).toArray).size ≤ 200 := by omega
  obtain ⟨y00, y01⟩ := y0
  obtain ⟨y10, y11⟩ := y1
  clear c0 c1 b0 b1 z0 z1 zq hten l0 l1 Hinj Heq
  generalize ByteArray.mk (Bm.row Q).toArray = F at *
  generalize tenOnes = Z at *
  have Hs0 : Hid (_) := hs0
  have Hs1 : Hid (_) := hs1
  have Ht0 : Hid (_) := ht0
  have Ht1 : Hid (_) := ht1
  have Hy : Hid ((10 ≤ E0.size ∧ E0.size ≤ 200) ∧ (10 ≤ E1.size ∧ E1.size ≤ 200)) := ⟨⟨y00, y01⟩, ⟨y10, y11⟩⟩
  clear hs0 hs1 ht0 ht1 y00 y01 y10 y11
  · skip
    go_enter Tryd.func6, Tryd.ntmps6
    go_wp2_with fail
    refine (known4_any _ HT.out).mono ?_
    rintro e w1 ⟨rfl, hb1⟩
    replace La : Hid (Lies _ _ _ _ _ _) := La.out.on hb1
    replace HT : Hid (Tab _) := HT.out.below hb1
    replace hA : Hid (Below W.heap.size W _) := below_join hA.out hb1
    clear hb1
    have La0 := La.out.c0
    have La1 := La.out.c1
    have La2 := La.out.c2
    have La3 := La.out.c3
    have LaL := La.out.lt
    go_wp2_with fail
    have Lb : Hid (Lies _ _ _ _ _ _) := Lies.new w1 x0 n0 r0 a1
    replace La : Hid (Lies _ _ _ _ _ _) := La.out.alloc (.cells #[.bool x0, .int .u32 n0, .bool r0, .string a1] 24)
    replace HT : Hid (Tab _) := HT.out.alloc (.cells #[.bool x0, .int .u32 n0, .bool r0, .string a1] 24)
    replace hA : Hid (Below W.heap.size W _) := hA.out.alloc hA.out.size (.cells #[.bool x0, .int .u32 n0, .bool r0, .string a1] 24)
    clear La0 La1 La2 La3 LaL
    refine (few4_any _ _ _ _ _).mono ?_
    rintro e w2 ⟨rfl, hb2⟩
    replace La : Hid (Lies _ _ _ _ _ _) := La.out.on hb2
    replace Lb : Hid (Lies _ _ _ _ _ _) := Lb.out.on hb2
    replace HT : Hid (Tab _) := HT.out.below hb2
    replace hA : Hid (Below W.heap.size W _) := below_join hA.out hb2
    clear hb2
    have La0 := La.out.c0
    have La1 := La.out.c1
    have La2 := La.out.c2
    have La3 := La.out.c3
    have LaL := La.out.lt
    have Lb0 := Lb.out.c0
    have Lb1 := Lb.out.c1
    have Lb2 := Lb.out.c2
    have Lb3 := Lb.out.c3
    have LbL := Lb.out.lt
    go_wp2_with fail
    refine (few4_any _ _ _ _ _).mono ?_
    rintro e w3 ⟨rfl, hb3⟩
    replace La : Hid (Lies _ _ _ _ _ _) := La.out.on hb3
    replace Lb : Hid (Lies _ _ _ _ _ _) := Lb.out.on hb3
    replace HT : Hid (Tab _) := HT.out.below hb3
    replace hA : Hid (Below W.heap.size W _) := below_join hA.out hb3
    clear hb3 La0 La1 La2 La3 LaL Lb0 Lb1 Lb2 Lb3 LbL
    have La0 := La.out.c0
    have La1 := La.out.c1
    have La2 := La.out.c2
    have La3 := La.out.c3
    have LaL := La.out.lt
    have Lb0 := Lb.out.c0
    have Lb1 := Lb.out.c1
    have Lb2 := Lb.out.c2
    have Lb3 := Lb.out.c3
    have LbL := Lb.out.lt
    go_wp2_with fail
    refine (HI0.out _).mono ?_
    rintro e w4 ⟨rfl, hb4⟩
    replace La : Hid (Lies _ _ _ _ _ _) := La.out.on hb4
    replace Lb : Hid (Lies _ _ _ _ _ _) := Lb.out.on hb4
    replace HT : Hid (Tab _) := HT.out.below hb4
    replace hA : Hid (Below W.heap.size W _) := below_join hA.out hb4
    clear hb4 La0 La1 La2 La3 LaL Lb0 Lb1 Lb2 Lb3 LbL
    have La0 := La.out.c0
    have La1 := La.out.c1
    have La2 := La.out.c2
    have La3 := La.out.c3
    have LaL := La.out.lt
    have Lb0 := Lb.out.c0
    have Lb1 := Lb.out.c1
    have Lb2 := Lb.out.c2
    have Lb3 := Lb.out.c3
    have LbL := Lb.out.lt
    go_wp2_with fail
    refine (HI1.out _).mono ?_
    rintro e w5 ⟨rfl, hb5⟩
    replace La : Hid (Lies _ _ _ _ _ _) := La.out.on hb5
    replace Lb : Hid (Lies _ _ _ _ _ _) := Lb.out.on hb5
    replace HT : Hid (Tab _) := HT.out.below hb5
    replace hA : Hid (Below W.heap.size W _) := below_join hA.out hb5
    clear hb5 La0 La1 La2 La3 LaL Lb0 Lb1 Lb2 Lb3 LbL
    have La0 := La.out.c0
    have La1 := La.out.c1
    have La2 := La.out.c2
    have La3 := La.out.c3
    have LaL := La.out.lt
    have Lb0 := Lb.out.c0
    have Lb1 := Lb.out.c1
    have Lb2 := Lb.out.c2
    have Lb3 := Lb.out.c3
    have LbL := Lb.out.lt
    go_wp2_with fail
    refine (HA.out _).mono ?_
    rintro e w6 ⟨rfl, hb6⟩
    replace La : Hid (Lies _ _ _ _ _ _) := La.out.on hb6
    replace Lb : Hid (Lies _ _ _ _ _ _) := Lb.out.on hb6
    replace HT : Hid (Tab _) := HT.out.below hb6
    replace hA : Hid (Below W.heap.size W _) := below_join hA.out hb6
    clear hb6 La0 La1 La2 La3 LaL Lb0 Lb1 Lb2 Lb3 LbL
    have La0 := La.out.c0
    have La1 := La.out.c1
    have La2 := La.out.c2
    have La3 := La.out.c3
    have LaL := La.out.lt
    have Lb0 := Lb.out.c0
    have Lb1 := Lb.out.c1
    have Lb2 := Lb.out.c2
    have Lb3 := Lb.out.c3
    have LbL := Lb.out.lt
    go_wp2_with fail
    refine (HS.out _).mono ?_
    rintro e w7 ⟨rfl, hb7⟩
    replace La : Hid (Lies _ _ _ _ _ _) := La.out.on hb7
    replace Lb : Hid (Lies _ _ _ _ _ _) := Lb.out.on hb7
    replace HT : Hid (Tab _) := HT.out.below hb7
    replace hA : Hid (Below W.heap.size W _) := below_join hA.out hb7
    clear hb7 La0 La1 La2 La3 LaL Lb0 Lb1 Lb2 Lb3 LbL
    have La0 := La.out.c0
    have La1 := La.out.c1
    have La2 := La.out.c2
    have La3 := La.out.c3
    have LaL := La.out.lt
    have Lb0 := Lb.out.c0
    have Lb1 := Lb.out.c1
    have Lb2 := Lb.out.c2
    have Lb3 := Lb.out.c3
    have LbL := Lb.out.lt
    go_wp2_with fail
    refine Lw.wp_region_quiet_below (by kernel_rfl) (by kernel_rfl) ?_
    repeat (first
      | go_big_quiet_skip
      | (go_big_quiet_want; go_big_quiet_op; go_big_quiet_on)
      | (go_big_quiet_want; go_big_quiet_op; apply Exists.intro; refine ⟨fun _ hb' => ?_, ?_⟩; (first
        | exact Lw.val_rfl _
        | (go_at_call_of 10 (Value.agg #[.bool x0, .int .u32 n0, .bool r0, .string d0]); exact Lw.calls_below hb' (HC0.out _ (HT.out.below hb')))
        | (go_at_call_of 10 (Value.agg #[.bool x0, .int .u32 n0, .bool r0, .string a1]); exact Lw.calls_below hb' (HC1.out _ (HT.out.below hb')))
        | (simp [go_sem, (La.out.on hb').c0, (La.out.on hb').c1, (La.out.on hb').c2, (La.out.on hb').c3]; rfl)
        | (simp [go_sem, (Lb.out.on hb').c0, (Lb.out.on hb').c1, (Lb.out.on hb').c2, (Lb.out.on hb').c3]; rfl)); go_big_quiet_on))
    refine wpQuiet_nil ?_
    intro w8 hb8
    replace La : Hid (Lies _ _ _ _ _ _) := La.out.on hb8
    replace Lb : Hid (Lies _ _ _ _ _ _) := Lb.out.on hb8
    replace hA : Hid (Below W.heap.size W _) := below_join hA.out hb8
    clear hb8 La0 La1 La2 La3 LaL Lb0 Lb1 Lb2 Lb3 LbL HT HI0 HI1 HC0 HC1 HA HS
    have La0 := La.out.c0
    have La1 := La.out.c1
    have La2 := La.out.c2
    have La3 := La.out.c3
    have LaL := La.out.lt
    have Lb0 := Lb.out.c0
    have Lb1 := Lb.out.c1
    have Lb2 := Lb.out.c2
    have Lb3 := Lb.out.c3
    have LbL := Lb.out.lt
    have hs0 := Hs0.out
    have hs1 := Hs1.out
    have ht0 := Ht0.out
    have ht1 := Ht1.out
    obtain ⟨⟨y00, y01⟩, ⟨y10, y11⟩⟩ := Hy.out
    by_cases hd : d0 = a1
    · have hnE : (E0.toList == E1.toList) = true := by rw [HEq.out hd]; exact beq_self_eq_true _
      clear HE HEq
      subst hd
      go_wp2_with fail
      go_quiet (fail)
      go_wp2
      all_goals
        go_ret
        exact ⟨rfl, below_drewN hA.out _⟩
    · have hne : (d0.toList == a1.toList) = false := by
        rw [beq_eq_false_iff_ne, ByteArray.toList_eq, ByteArray.toList_eq]
        intro h
        apply hd
        cases d0; cases a1
        congr 1
        exact Array.toList_inj.1 h
      have hnE : (E0.toList == E1.toList) = false := by
        rw [beq_eq_false_iff_ne]
        exact fun h => hd (HE.out h)
      clear hd HE HEq
      go_wp2_with fail
      go_quiet (fail)
      go_wp2
      all_goals
        go_ret
        exact ⟨rfl, below_drewN hA.out _⟩
theorem walk (x0 : Bool) (n0 : Int) (r0 : Bool) (d0 : ByteArray) (w0 : (Lit.int .u32 n0).wf = true) (u0 : d0.size ≤ maxLen) (a1 : ByteArray) (w1 : a1.size ≤ maxLen) (W : World) (hT : Tab W) :
    Calls Tryd.prog 6 #[.agg #[.bool x0, .int .u32 n0, .bool r0, .string d0], .string a1] W fun e w' => e = .returned (.bool true) ∧ Below W.heap.size W w' := by
  obtain ⟨m0, rfl, h0⟩ := u32_nat w0
  exact walkN x0 m0 r0 d0 h0 a1 W hT
theorem own : ownKnob Tryd.prog.godebug = none := by kernel_rfl
theorem contract (H : Type) (enc : TypeId × Value → H) (W : World) (base : Nat) (args : Array Value) (ds gs : List (DataW H)) (before : List MemPlace)
    (hval0 : ∀ (j : Nat) t v, Tryd.f6.params[j]? = some t → args[j]? = some v → Value.okWide Tryd.prog W .any base t v)
    (hW : DataW.Whole enc Tryd.prog Tryd.f6.params.toList Rows.codeFrontSpec.vars false W args.toList ds gs before) (hL : laidMetH Tryd.prog Rows.codeFrontRow.laid W) :
    Calls Tryd.prog 6 args W fun e W' => ∃ v, e = .returned v ∧ Rows.codeFrontSpec.post enc Tryd.prog Tryd.f6 false true false false W args v W' := by
  have hval : ∀ (j : Nat) t v, Tryd.f6.params[j]? = some t → args[j]? = some v → Value.okWide Tryd.prog W .any base t v := hval0
  have hW' := hW
  obtain ⟨p, q, hA0, hV, rfl, hfz, hnd⟩ := hW
  have hA : DataW.TrodAll enc Tryd.prog W 0 (fun _ => true) true Tryd.f6.params.toList args.toList ds p := hA0
  rw [Tryd.params6] at hA hval
  obtain ⟨v0, vs0, d0, ds0, p0, q0, hargs, rfl, rfl, h0, rr0⟩ := trodAll_cons hA
  obtain ⟨v1, vs1, d1, ds1, p1, q1, rfl, rfl, rfl, h1, rr1⟩ := trodAll_cons rr0
  obtain ⟨rfl, rfl, rfl⟩ := trodAll_nil rr1
  obtain rfl : args = #[v0, v1] := by cases args; simp_all
  obtain ⟨rfl, rfl⟩ := trodVars_none hV
  obtain ⟨e0, e1, e2, e3, y0, y1, y2, y3, n0, rfl, rfl, rfl, k0, k1, k2, k3⟩ := Joins.open_agg4 Tryd.underlying24 (by kernel_rfl) (by kernel_rfl) (hval 0 24 v0 rfl rfl) h0
  obtain ⟨x0, hx0, rfl⟩ := DataW.trod_bool Tryd.underlying4 k0
  obtain ⟨n0, hx1, rfl, w0⟩ := DataW.trod_int Tryd.underlying22 k1
  obtain ⟨r0, hx2, rfl⟩ := DataW.trod_bool Tryd.underlying4 k2
  obtain ⟨d0, hx3, rfl, u0⟩ := DataW.trod_string Tryd.underlying9 k3
  obtain rfl := List.singleton_inj.1 hx0
  obtain rfl := List.singleton_inj.1 hx1
  obtain rfl := List.singleton_inj.1 hx2
  obtain rfl := List.singleton_inj.1 hx3
  clear k0 k1 k2 k3 hx0 hx1 hx2 hx3
  obtain ⟨a1, rfl, rfl, rfl, w1⟩ := open_string Tryd.underlying9 (hval 1 9 v1 rfl rfl) h1
  clear hA0 hval0
  refine (walk x0 n0 r0 d0 w0 u0 a1 w1 W (tab_of_laid hL)).mono fun e W' ⟨he, bel⟩ => ?_
  subst he
  exact ⟨_, rfl, _, _, _, [], _, [], hW', trodAll_mk1 (shut_bool Tryd.underlying4 _), (trodAll_cons_mk (shut_frame w0 u0) (trodAll_cons_mk (shut_string Tryd.underlying9 w1) trodAll_mk0)), rfl, bel.frame _, fun h => by cases h⟩
theorem laid_met (os : Os) : laidMet Tryd.prog Rows.codeFrontRow.laid ((tabWorld os).forCall (fun _ _ => 0) ⟨#[], #[.agg #[.bool false, .int .u32 0, .bool false, .string ByteArray.empty], .string ByteArray.empty], []⟩).memory :=
  laidMet_of_run' 8 (by kernel_rfl) (by kernel_rfl)
theorem reads (os : Os) {H : Type} (enc : TypeId × Value → H) : ∃ places, DataW.whole enc Tryd.prog ((tabWorld os).forCall (fun _ _ => 0) ⟨#[], #[.agg #[.bool false, .int .u32 0, .bool false, .string ByteArray.empty], .string ByteArray.empty], []⟩).memory Tryd.f6.params.toList Rows.codeFrontSpec.vars false #[Value.agg #[.bool false, .int .u32 0, .bool false, .string ByteArray.empty], .string ByteArray.empty].toList 8 = some ([.agg [.lit (.bool false), .lit (.int .u32 0), .lit (.bool false), .lit (.string [])], .lit (.string [])], [], places) :=
  ⟨[], by kernel_rfl⟩
set_option maxRecDepth 100000 in
theorem lifted (os : Os) (started : os.Started) (H : Type) (enc : TypeId × Value → H) (F : Stop.Interp) :
    ReturnsInHanded {} Tryd.checked os 6 .any ((OpenSpec.ofChange Rows.codeFrontSpec).preRow enc Tryd.prog Tryd.f6 Rows.codeFrontRow.domain false Rows.codeFrontRow.laid) (((OpenSpec.ofChange Rows.codeFrontSpec).at F).post enc Tryd.prog Tryd.f6 false true false false) := by
  obtain ⟨places, hx⟩ := reads os enc
  refine returnsInHanded_of_row (C := Tryd.checked) (s := OpenSpec.ofChange Rows.codeFrontSpec) own started (by kernel_rfl) Tryd.func6
    (witness_row_at (enc := enc) (C := Tryd.checked) false (tabWorld os) #[.agg #[.bool false, .int .u32 0, .bool false, .string ByteArray.empty], .string ByteArray.empty] rfl (by kernel_rfl) (by kernel_rfl) (by kernel_rfl)
      (OpenSpec.preRow_of_cond 8 hx (by kernel_rfl) (fun k hk => by cases hk) (by kernel_rfl) (laid_met os))) ?_
  intro W base args ds gs before hval hW _ _ _ hL _ _
  exact contract H enc W base args ds gs before hval hW hL
theorem said : Rows.CodeFrontSaid :=
  OpenClaim.holds_of_cond 6 Tryd.f6 rfl rfl rfl rfl rfl rfl rfl ⟨rfl, rfl, rfl, rfl, rfl⟩ rfl rfl rfl rfl rfl (by kernel_rfl) Tryd.func6 (by kernel_rfl)
    (of_decide_eq_true (by kernel_rfl)) (by unfold Func.isWrapper; first | (rw [if_pos (by decide +kernel)]; kernel_rfl) | (rw [if_neg (by decide +kernel)]; exact ⟨rfl, rfl⟩))
    (fun os started H enc _ F => by rw [OpenClaim.pre_eq_preRow]; exact lifted os started H enc F)
theorem plain (f : FuncId) (fn : Func) (hf : Tryd.pinned.checked.prog.funcNamed "ostinato/ostinatolaw4.CodeFront" = some f) (hfn : Tryd.pinned.checked.prog.funcs[f]? = some fn) :
    false = Tryd.pinned.checked.prog.looks [] ∧ ∀ (j : Nat) t, fn.params[j]? = some t → Tryd.pinned.checked.prog.wantsStandIn t = false := by
  obtain rfl : f = 6 := Option.some.inj ((show Tryd.prog.funcNamed "ostinato/ostinatolaw4.CodeFront" = some 6 by kernel_rfl).symm.trans hf) |>.symm
  obtain rfl : fn = Tryd.f6 := (Option.some.inj (Tryd.func6.symm.trans hfn)).symm
  refine ⟨by kernel_rfl, fun j t ht => ?_⟩
  rw [Tryd.params6] at ht
  have hm : t ∈ [24, 9] := by simpa using Array.mem_of_getElem? ht
  have hall : ([24, 9].all fun u => !Tryd.prog.wantsStandIn u) = true := by kernel_rfl
  exact (show Tryd.prog.wantsStandIn t = false by simpa using List.all_eq_true.1 hall t hm)
end Go.Proofs.YtaphdehhnnglgabDoor.codeFront
namespace Go.Proofs.YtaphdehhnnglgabDoor
/-- The statement. -/
theorem codeFront_holds : Rows.CodeFrontCardSaid :=
  Claim7.holds_tied_plain_at .later [] _ _ _ _ codeFront.said (fun _ h => by cases h) (by kernel_rfl) (fun _ h => by cases h) codeFront_row_tie rfl ⟨rfl, rfl⟩ (by kernel_rfl) rfl codeFront.plain (by kernel_rfl)
#print axioms codeFront_holds
end Go.Proofs.YtaphdehhnnglgabDoor
