/- FrameFields: a frame's bits are its fields, each of so many bits. No condition but the row's own: the table of widths holds what the program's text lays. -/
import Derived.Test.YtfnbkehabadpmaaDoorGl
import Derived.Test.YtfnbkehabadpmaaDoorT2
namespace Go.Proofs.YtfnbkehabadpmaaDoor.frameFields
open Go.ChangeShapes Go.WideShapes Go.ChangeAt Go.RowKit
open Go.ChangeMaps (open_string shut_string)
set_option linter.unusedVariables false
theorem hi29 (m : Nat) : (Bm.ofB m 29).take 11 = Bm.ofB (m / 262144) 11 := by
  apply List.ext_getElem
  · simp [Bm.length_ofB]
  · intro i h1 h2
    have hi : i < 11 := by simpa [Bm.length_ofB] using h2
    simp only [Bm.ofB, List.getElem_map, List.getElem_range, List.getElem_take]
    rw [show (262144 : Nat) = 2 ^ 18 from by decide, Nat.testBit_div_two_pow]
    congr 1
    omega
theorem lo29 (m : Nat) : (Bm.ofB m 29).drop 11 = Bm.ofB m 18 := by
  apply List.ext_getElem
  · simp [Bm.length_ofB]
  · intro i h1 h2
    have hi : i < 18 := by simpa [Bm.length_ofB] using h2
    simp only [Bm.ofB, List.getElem_map, List.getElem_range, List.getElem_drop]
    congr 1
    omega
theorem ext_hi (m : Nat) : (ByteArray.mk (Bm.row (Bm.ofB m 29)).toArray).extract 0 11 = ByteArray.mk (Bm.row (Bm.ofB (m / 262144) 11)).toArray := by
  apply ByteArray.ext
  apply Array.toList_inj.1
  rw [Lib.extract_data]
  show List.take (11 - 0) (List.drop 0 (Bm.row (Bm.ofB m 29))) = Bm.row (Bm.ofB (m / 262144) 11)
  rw [List.drop_zero, ← hi29]
  unfold Bm.row
  rw [List.map_take]
theorem ext_lo (m : Nat) : (ByteArray.mk (Bm.row (Bm.ofB m 29)).toArray).extract 11 29 = ByteArray.mk (Bm.row (Bm.ofB m 18)).toArray := by
  apply ByteArray.ext
  apply Array.toList_inj.1
  rw [Lib.extract_data]
  show List.take (29 - 11) (List.drop 11 (Bm.row (Bm.ofB m 29))) = Bm.row (Bm.ofB m 18)
  rw [← lo29]
  unfold Bm.row
  rw [← List.map_drop, ← List.map_take, List.take_of_length_le (by simp [Bm.length_ofB])]
theorem body_std (n : Nat) (r : Bool) (d : List UInt8) : ByteArray.mk (Bm.row (Fm.body0 false n r d)).toArray = (((ByteArray.mk #[48] ++ ByteArray.mk (Bm.row (Bm.ofB n 11)).toArray) ++ ByteArray.mk #[Bm.sign r]) ++ ByteArray.mk #[48, 48]) ++ (ByteArray.mk (Bm.row (Bm.ofB d.length 4)).toArray ++ ByteArray.mk (Bm.row (Bm.fromB d)).toArray) := by
  have e : Fm.body0 false n r d = ((([false] ++ Bm.ofB n 11) ++ [r]) ++ [false, false]) ++ (Bm.ofB d.length 4 ++ Bm.fromB d) := by unfold Fm.body0 Fm.arb0; simp
  rw [e, mk_row_app, mk_row_app, mk_row_app, mk_row_app, mk_row_app]
  rfl
theorem body_ext (n : Nat) (r : Bool) (d : List UInt8) : ByteArray.mk (Bm.row (Fm.body0 true n r d)).toArray = (((((ByteArray.mk #[48] ++ ByteArray.mk (Bm.row (Bm.ofB (n / 262144) 11)).toArray) ++ ByteArray.mk #[49, 49]) ++ ByteArray.mk (Bm.row (Bm.ofB n 18)).toArray) ++ ByteArray.mk #[Bm.sign r]) ++ ByteArray.mk #[48, 48]) ++ (ByteArray.mk (Bm.row (Bm.ofB d.length 4)).toArray ++ ByteArray.mk (Bm.row (Bm.fromB d)).toArray) := by
  have e : Fm.body0 true n r d = ((((([false] ++ Bm.ofB (n / 262144) 11) ++ [true, true]) ++ Bm.ofB n 18) ++ [r]) ++ [false, false]) ++ (Bm.ofB d.length 4 ++ Bm.fromB d) := by unfold Fm.body0 Fm.arb0; simp
  rw [e, mk_row_app, mk_row_app, mk_row_app, mk_row_app, mk_row_app, mk_row_app, mk_row_app]
  rfl
/-- Behind the frames' making: the fields. 'D': the bytes that count. -/
def Fields (r : Bool) (D : ByteArray) : Prop := D.size ≤ 8 ∧ (r = true → D = ByteArray.empty)
theorem is_of {x : Bool} {n : Nat} {r : Bool} {D : ByteArray} (h : Fields r D) (hn : n < Fm.top x) : Fm.isF x n r D.data.toList = true := by
  refine Fm.isF_mk hn (by simpa using h.1) (fun hr => ?_)
  rw [h.2 hr]
  rfl
theorem fbody {x : Bool} {n : Nat} {r : Bool} {D : ByteArray} (h : Fields r D) (hn : n < Fm.top x) (hn2 : n < 4294967296) (w : World) (hT : Tab w) :
    Calls Tryd.prog 13 #[.agg #[.bool x, .int .u32 n, .bool r, .string D]] w fun e w' => e = .returned (.string ⟨(Bm.row (Fm.body0 x n r D.data.toList)).toArray⟩) ∧ Below w.heap.size w w' := by
  have := fBody_any x n r D w hT hn2
  unfold Fm.body at this
  rw [if_pos (is_of h hn)] at this
  exact this
theorem farb {x : Bool} {n : Nat} {r : Bool} {D : ByteArray} (h : Fields r D) (hn : n < Fm.top x) (hn2 : n < 4294967296) (w : World) (hT : Tab w) :
    Calls Tryd.prog 15 #[.agg #[.bool x, .int .u32 n, .bool r, .string D]] w fun e w' => e = .returned (.string ⟨(Bm.row (Fm.arb0 x n r)).toArray⟩) ∧ Below w.heap.size w w' := by
  have := fArb_any x n r D w hT hn2
  unfold Fm.arb at this
  rw [if_pos (is_of h hn)] at this
  exact this
set_option maxRecDepth 100000 in
set_option maxHeartbeats 4000000 in
theorem walkN (n : Nat) (hn : n < 4294967296) (r : Bool) (d : ByteArray) (u : d.size ≤ maxLen) (W : World) (hT : Tab W) :
    Calls Tryd.prog 8 #[.int .u32 (n : Int), .bool r, .string d] W fun e w' => e = .returned (.bool true) ∧ Below W.heap.size W w' := by
  unfold maxLen at u
  by_cases c : 8 < d.size
  · go_enter Tryd.func8, Tryd.ntmps8
    go_wp2_with fail
    refine (known3_any _ hT).mono ?_
    rintro e w1 ⟨rfl, hb1⟩
    go_wp2
    go_ret
    exact ⟨rfl, hb1⟩
  obtain ⟨D, hD⟩ : ∃ D : ByteArray, D = if r then ByteArray.empty else d := ⟨_, rfl⟩
  have hF : Fields r D := by
    subst hD
    cases r
    · exact ⟨by simpa using c, fun h => by cases h⟩
    · exact ⟨by simp, fun _ => rfl⟩
  have m1 : n % 2048 < Fm.top false := Nat.mod_lt _ (by decide)
  have m2 : n % 536870912 < Fm.top true := Nat.mod_lt _ (by decide)
  have b1 : n % 2048 < 2048 := m1
  have b2 : n % 536870912 < 536870912 := m2
  have e1 : ((n : Int) % 2048) = ((n % 2048 : Nat) : Int) := by simp
  have e2 : ((n : Int) % 536870912) = ((n % 536870912 : Nat) : Int) := by simp
  generalize n % 2048 = a at *
  generalize n % 536870912 = g at *
  have hs8 : D.size ≤ 8 := hF.1
  have hdl : D.data.toList.length = D.size := by simp
  have HBf : Hid (∀ w, Tab w → Calls Tryd.prog 13 #[.agg #[.bool false, .int .u32 a, .bool r, .string D]] w fun e w' => e = .returned (.string ((((ByteArray.mk #[48] ++ ByteArray.mk (Bm.row (Bm.ofB a 11)).toArray) ++ ByteArray.mk #[Bm.sign r]) ++ ByteArray.mk #[48, 48]) ++ (ByteArray.mk (Bm.row (Bm.ofB D.size 4)).toArray ++ ByteArray.mk (Bm.row (Bm.fromB D.data.toList)).toArray))) ∧ Below w.heap.size w w') := fun w hT => by
    have := fbody hF m1 (by omega) w hT
    rw [body_std, hdl] at this
    exact this
  have HBg : Hid (∀ w, Tab w → Calls Tryd.prog 13 #[.agg #[.bool true, .int .u32 g, .bool r, .string D]] w fun e w' => e = .returned (.string ((((((ByteArray.mk #[48] ++ ByteArray.mk (Bm.row (Bm.ofB (g / 262144) 11)).toArray) ++ ByteArray.mk #[49, 49]) ++ ByteArray.mk (Bm.row (Bm.ofB g 18)).toArray) ++ ByteArray.mk #[Bm.sign r]) ++ ByteArray.mk #[48, 48]) ++ (ByteArray.mk (Bm.row (Bm.ofB D.size 4)).toArray ++ ByteArray.mk (Bm.row (Bm.fromB D.data.toList)).toArray))) ∧ Below w.heap.size w w') := fun w hT => by
    have := fbody hF m2 (by omega) w hT
    rw [body_ext, hdl] at this
    exact this
  have HAf : Hid (∀ w, Tab w → Calls Tryd.prog 15 #[.agg #[.bool false, .int .u32 a, .bool r, .string D]] w fun e w' => e = .returned (.string ⟨(Bm.row (Fm.arb0 false a r)).toArray⟩) ∧ Below w.heap.size w w') := fun w hT => farb hF m1 (by omega) w hT
  have HAg : Hid (∀ w, Tab w → Calls Tryd.prog 15 #[.agg #[.bool true, .int .u32 g, .bool r, .string D]] w fun e w' => e = .returned (.string ⟨(Bm.row (Fm.arb0 true g r)).toArray⟩) ∧ Below w.heap.size w w') := fun w hT => farb hF m2 (by omega) w hT
  have HO4 : Hid (∀ w, Calls Tryd.prog 25 #[.int .u64 (D.size : Int), .int .i64 4] w fun e w' => e = .returned (.string ⟨(Bm.row (Bm.ofB D.size 4)).toArray⟩) ∧ w' = w) := fun w => refOf_k D.size 4 (by decide) (by omega) w _ rfl _ rfl
  have HO11 : Hid (∀ w, Calls Tryd.prog 25 #[.int .u64 (a : Int), .int .i64 11] w fun e w' => e = .returned (.string ⟨(Bm.row (Bm.ofB a 11)).toArray⟩) ∧ w' = w) := fun w => refOf_k a 11 (by decide) (by omega) w _ rfl _ rfl
  have HO29 : Hid (∀ w, Calls Tryd.prog 25 #[.int .u64 (g : Int), .int .i64 29] w fun e w' => e = .returned (.string ⟨(Bm.row (Bm.ofB g 29)).toArray⟩) ∧ w' = w) := fun w => refOf_k g 29 (by decide) (by omega) w _ rfl _ rfl
  have HFB : Hid (∀ w, Calls Tryd.prog 26 #[.string D] w fun e w' => e = .returned (.string ⟨(Bm.row (Bm.fromB D.data.toList)).toArray⟩) ∧ w' = w) := fun w => refFrom_any D w (by omega)
  have s4 := size_ofB D.size 4
  have s11 := size_ofB a 11
  have s29 := size_ofB g 29
  have sfb := size_fromB D.data.toList
  have sh := size_ofB (g / 262144) 11
  have sl := size_ofB g 18
  have sa0 := size_arb0 false a r
  have sa1 := size_arb0 true g r
  have X1 := ext_hi g
  have X2 := ext_lo g
  rw [if_neg (by decide)] at sa0
  rw [if_pos rfl] at sa1
  rw [hdl] at sfb
  generalize ByteArray.mk (Bm.row (Bm.ofB D.size 4)).toArray = S4 at *
  generalize ByteArray.mk (Bm.row (Bm.ofB a 11)).toArray = S11 at *
  generalize ByteArray.mk (Bm.row (Bm.ofB g 29)).toArray = S29 at *
  generalize ByteArray.mk (Bm.row (Bm.fromB D.data.toList)).toArray = SF at *
  generalize ByteArray.mk (Bm.row (Bm.ofB (g / 262144) 11)).toArray = SH at *
  generalize ByteArray.mk (Bm.row (Bm.ofB g 18)).toArray = SL at *
  generalize ByteArray.mk (Bm.row (Fm.arb0 false a r)).toArray = A0 at *
  generalize ByteArray.mk (Bm.row (Fm.arb0 true g r)).toArray = A1 at *
  have hsl1 := fun W => run_slice_string_h (P := Tryd.prog) W 9 S29 Tryd.underlying9 .i64 11 (by decide) (by omega)
  have hsl2 := fun W => run_slice_string_l (P := Tryd.prog) W 9 S29 Tryd.underlying9 .i64 11 (by decide) (by omega)
  rw [show Int.toNat 11 = 11 from rfl, X1] at hsl1
  rw [show Int.toNat 11 = 11 from rfl, s29, X2] at hsl2
  clear m1 m2 hF hdl X1 X2
  go_enter Tryd.func8, Tryd.ntmps8
  go_wp2_with fail
  refine (known3_any _ hT).mono ?_
  rintro e w1 ⟨rfl, hb1⟩
  have HT : Hid (Tab w1) := hT.below hb1
  have hA : Hid (Below W.heap.size W w1) := hb1
  clear hT hb1
  have HD : Hid (D = if r then ByteArray.empty else d) := hD
  clear hD
  cases r
  · have hd2 : D = d := HD.out
    subst hd2
    clear HD
    go_wp2_with fail
    refine (refBit_any _ _).mono ?_
    rintro e w2 ⟨rfl, rfl⟩
    have La : Hid (Lies ((w1.alloc (.cells #[.bool false, .int .u32 (a : Int), .bool false, .string D] 24)).alloc (.cells #[.bool true, .int .u32 (g : Int), .bool false, .string D] 24)) w1.heap.size false a false D) := (Lies.new w1 false a false D).alloc _
    have Lb : Hid (Lies ((w1.alloc (.cells #[.bool false, .int .u32 (a : Int), .bool false, .string D] 24)).alloc (.cells #[.bool true, .int .u32 (g : Int), .bool false, .string D] 24)) (w1.heap.size + 1) true g false D) := Lies.new1 w1 _ true g false D
    replace HT : Hid (Tab ((w1.alloc (.cells #[.bool false, .int .u32 (a : Int), .bool false, .string D] 24)).alloc (.cells #[.bool true, .int .u32 (g : Int), .bool false, .string D] 24))) := (HT.out.alloc _).alloc _
    replace hA : Hid (Below W.heap.size W ((w1.alloc (.cells #[.bool false, .int .u32 (a : Int), .bool false, .string D] 24)).alloc (.cells #[.bool true, .int .u32 (g : Int), .bool false, .string D] 24))) := (hA.out.alloc hA.out.size _).alloc (Nat.le_trans hA.out.size (by simp)) _
    go_wp2_with fail
    generalize (w1.alloc (.cells #[.bool false, .int .u32 (a : Int), .bool false, .string D] 24)).alloc (.cells #[.bool true, .int .u32 (g : Int), .bool false, .string D] 24) = w2 at *
    refine Lw.wp_region_quiet_below (by kernel_rfl) (by kernel_rfl) ?_
    repeat (first
      | go_big_quiet_skip
      | (go_big_quiet_want; go_big_quiet_op; go_big_quiet_on)
      | (go_big_quiet_want; go_big_quiet_op; apply Exists.intro; refine ⟨fun _ hb' => ?_, ?_⟩; (first
        | exact Lw.val_rfl _
        | (go_at_call 25; exact Lw.calls_same hb' (HO4.out _))
        | (go_at_call 26; exact Lw.calls_same hb' (HFB.out _))
        | (simp [go_sem, (Lies.on La.out hb').c3]; rfl)); go_big_quiet_on))
    refine wpQuiet_nil ?_
    intro w3 hb3
    replace La : Hid (Lies _ _ _ _ _ _) := Lies.on La.out hb3
    replace Lb : Hid (Lies _ _ _ _ _ _) := Lies.on Lb.out hb3
    replace HT : Hid (Tab _) := HT.out.below hb3
    replace hA : Hid (Below W.heap.size W _) := below_join hA.out hb3
    clear hb3 HO4 HFB
    have La1 := La.out.c1
    have Lb1 := Lb.out.c1
    go_wp2_with (first | (go_at_call_of 25 (Value.int IntKind.i64 11); refine (HO11.out _).mono ?_; rintro e w' ⟨rfl, rfl⟩) | (go_at_call_of 25 (Value.int IntKind.i64 29); refine (HO29.out _).mono ?_; rintro e w' ⟨rfl, rfl⟩))
    refine Lw.wp_region_quiet_below (by kernel_rfl) (by kernel_rfl) ?_
    repeat (first
      | go_big_quiet_skip
      | (go_big_quiet_want; go_big_quiet_op; go_big_quiet_on)
      | (go_big_quiet_want; go_big_quiet_op; apply Exists.intro; refine ⟨fun _ hb' => ?_, ?_⟩; (first
        | exact Lw.val_rfl _); go_big_quiet_on))
    refine wpQuiet_nil ?_
    intro w4 hb4
    replace La : Hid (Lies _ _ _ _ _ _) := Lies.on La.out hb4
    replace Lb : Hid (Lies _ _ _ _ _ _) := Lies.on Lb.out hb4
    replace HT : Hid (Tab _) := HT.out.below hb4
    replace hA : Hid (Below W.heap.size W _) := below_join hA.out hb4
    clear hb4 HO11 HO29 La1 Lb1
    have La0 := La.out.c0
    have La1 := La.out.c1
    have La2 := La.out.c2
    have La3 := La.out.c3
    have LaL := La.out.lt
    have Lb0 := Lb.out.c0
    have Lb1 := Lb.out.c1
    have Lb2 := Lb.out.c2
    have Lb3 := Lb.out.c3
    have LbL := Lb.out.lt
    go_wp2_with (first | (go_at_call_of 13 (Value.int IntKind.u32 (a : Int)); refine (HBf.out _ HT.out).mono ?_; rintro e w' ⟨rfl, hb'⟩; replace La : Hid (Lies _ _ _ _ _ _) := (by first | exact Lies.on La.out hb' | exact Lies.on (Lies.alloc La.out _) hb'); replace Lb : Hid (Lies _ _ _ _ _ _) := (by first | exact Lies.on Lb.out hb' | exact Lies.on (Lies.alloc Lb.out _) hb'); replace HT : Hid (Tab _) := (by first | exact HT.out.below hb' | exact (HT.out.alloc _).below hb'); replace hA : Hid (Below W.heap.size W _) := (by first | exact below_join hA.out hb' | exact below_join (hA.out.alloc hA.out.size _) hb'); (try clear La0 La1 La2 La3 LaL); have La0 := La.out.c0; have La1 := La.out.c1; have La2 := La.out.c2; have La3 := La.out.c3; have LaL := La.out.lt; (try clear Lb0 Lb1 Lb2 Lb3 LbL); have Lb0 := Lb.out.c0; have Lb1 := Lb.out.c1; have Lb2 := Lb.out.c2; have Lb3 := Lb.out.c3; have LbL := Lb.out.lt; clear hb') | (go_at_call 13; refine (HBg.out _ HT.out).mono ?_; rintro e w' ⟨rfl, hb'⟩; replace La : Hid (Lies _ _ _ _ _ _) := (by first | exact Lies.on La.out hb' | exact Lies.on (Lies.alloc La.out _) hb'); replace Lb : Hid (Lies _ _ _ _ _ _) := (by first | exact Lies.on Lb.out hb' | exact Lies.on (Lies.alloc Lb.out _) hb'); replace HT : Hid (Tab _) := (by first | exact HT.out.below hb' | exact (HT.out.alloc _).below hb'); replace hA : Hid (Below W.heap.size W _) := (by first | exact below_join hA.out hb' | exact below_join (hA.out.alloc hA.out.size _) hb'); (try clear La0 La1 La2 La3 LaL); have La0 := La.out.c0; have La1 := La.out.c1; have La2 := La.out.c2; have La3 := La.out.c3; have LaL := La.out.lt; (try clear Lb0 Lb1 Lb2 Lb3 LbL); have Lb0 := Lb.out.c0; have Lb1 := Lb.out.c1; have Lb2 := Lb.out.c2; have Lb3 := Lb.out.c3; have LbL := Lb.out.lt; clear hb') | (go_at_call_of 15 (Value.int IntKind.u32 (a : Int)); refine (HAf.out _ HT.out).mono ?_; rintro e w' ⟨rfl, hb'⟩; replace La : Hid (Lies _ _ _ _ _ _) := (by first | exact Lies.on La.out hb' | exact Lies.on (Lies.alloc La.out _) hb'); replace Lb : Hid (Lies _ _ _ _ _ _) := (by first | exact Lies.on Lb.out hb' | exact Lies.on (Lies.alloc Lb.out _) hb'); replace HT : Hid (Tab _) := (by first | exact HT.out.below hb' | exact (HT.out.alloc _).below hb'); replace hA : Hid (Below W.heap.size W _) := (by first | exact below_join hA.out hb' | exact below_join (hA.out.alloc hA.out.size _) hb'); (try clear La0 La1 La2 La3 LaL); have La0 := La.out.c0; have La1 := La.out.c1; have La2 := La.out.c2; have La3 := La.out.c3; have LaL := La.out.lt; (try clear Lb0 Lb1 Lb2 Lb3 LbL); have Lb0 := Lb.out.c0; have Lb1 := Lb.out.c1; have Lb2 := Lb.out.c2; have Lb3 := Lb.out.c3; have LbL := Lb.out.lt; clear hb') | (go_at_call 15; refine (HAg.out _ HT.out).mono ?_; rintro e w' ⟨rfl, hb'⟩; replace La : Hid (Lies _ _ _ _ _ _) := (by first | exact Lies.on La.out hb' | exact Lies.on (Lies.alloc La.out _) hb'); replace Lb : Hid (Lies _ _ _ _ _ _) := (by first | exact Lies.on Lb.out hb' | exact Lies.on (Lies.alloc Lb.out _) hb'); replace HT : Hid (Tab _) := (by first | exact HT.out.below hb' | exact (HT.out.alloc _).below hb'); replace hA : Hid (Below W.heap.size W _) := (by first | exact below_join hA.out hb' | exact below_join (hA.out.alloc hA.out.size _) hb'); (try clear La0 La1 La2 La3 LaL); have La0 := La.out.c0; have La1 := La.out.c1; have La2 := La.out.c2; have La3 := La.out.c3; have LaL := La.out.lt; (try clear Lb0 Lb1 Lb2 Lb3 LbL); have Lb0 := Lb.out.c0; have Lb1 := Lb.out.c1; have Lb2 := Lb.out.c2; have Lb3 := Lb.out.c3; have LbL := Lb.out.lt; clear hb'))
    go_ret
    exact ⟨rfl, hA.out⟩
  · have hd2 : D = ByteArray.mk #[] := HD.out
    subst hd2
    clear HD
    go_wp2_with fail
    refine (refBit_any _ _).mono ?_
    rintro e w2 ⟨rfl, rfl⟩
    have La : Hid (Lies ((w1.alloc (.cells #[.bool false, .int .u32 (a : Int), .bool true, .string ⟨#[]⟩] 24)).alloc (.cells #[.bool true, .int .u32 (g : Int), .bool true, .string ⟨#[]⟩] 24)) w1.heap.size false a true ⟨#[]⟩) := (Lies.new w1 false a true ⟨#[]⟩).alloc _
    have Lb : Hid (Lies ((w1.alloc (.cells #[.bool false, .int .u32 (a : Int), .bool true, .string ⟨#[]⟩] 24)).alloc (.cells #[.bool true, .int .u32 (g : Int), .bool true, .string ⟨#[]⟩] 24)) (w1.heap.size + 1) true g true ⟨#[]⟩) := Lies.new1 w1 _ true g true ⟨#[]⟩
    replace HT : Hid (Tab ((w1.alloc (.cells #[.bool false, .int .u32 (a : Int), .bool true, .string ⟨#[]⟩] 24)).alloc (.cells #[.bool true, .int .u32 (g : Int), .bool true, .string ⟨#[]⟩] 24))) := (HT.out.alloc _).alloc _
    replace hA : Hid (Below W.heap.size W ((w1.alloc (.cells #[.bool false, .int .u32 (a : Int), .bool true, .string ⟨#[]⟩] 24)).alloc (.cells #[.bool true, .int .u32 (g : Int), .bool true, .string ⟨#[]⟩] 24))) := (hA.out.alloc hA.out.size _).alloc (Nat.le_trans hA.out.size (by simp)) _
    go_wp2_with fail
    generalize (w1.alloc (.cells #[.bool false, .int .u32 (a : Int), .bool true, .string ⟨#[]⟩] 24)).alloc (.cells #[.bool true, .int .u32 (g : Int), .bool true, .string ⟨#[]⟩] 24) = w2 at *
    refine Lw.wp_region_quiet_below (by kernel_rfl) (by kernel_rfl) ?_
    repeat (first
      | go_big_quiet_skip
      | (go_big_quiet_want; go_big_quiet_op; go_big_quiet_on)
      | (go_big_quiet_want; go_big_quiet_op; apply Exists.intro; refine ⟨fun _ hb' => ?_, ?_⟩; (first
        | exact Lw.val_rfl _
        | (go_at_call 25; exact Lw.calls_same hb' (HO4.out _))
        | (go_at_call 26; exact Lw.calls_same hb' (HFB.out _))
        | (simp [go_sem, (Lies.on La.out hb').c3]; rfl)); go_big_quiet_on))
    refine wpQuiet_nil ?_
    intro w3 hb3
    replace La : Hid (Lies _ _ _ _ _ _) := Lies.on La.out hb3
    replace Lb : Hid (Lies _ _ _ _ _ _) := Lies.on Lb.out hb3
    replace HT : Hid (Tab _) := HT.out.below hb3
    replace hA : Hid (Below W.heap.size W _) := below_join hA.out hb3
    clear hb3 HO4 HFB
    have La1 := La.out.c1
    have Lb1 := Lb.out.c1
    go_wp2_with (first | (go_at_call_of 25 (Value.int IntKind.i64 11); refine (HO11.out _).mono ?_; rintro e w' ⟨rfl, rfl⟩) | (go_at_call_of 25 (Value.int IntKind.i64 29); refine (HO29.out _).mono ?_; rintro e w' ⟨rfl, rfl⟩))
    refine Lw.wp_region_quiet_below (by kernel_rfl) (by kernel_rfl) ?_
    repeat (first
      | go_big_quiet_skip
      | (go_big_quiet_want; go_big_quiet_op; go_big_quiet_on)
      | (go_big_quiet_want; go_big_quiet_op; apply Exists.intro; refine ⟨fun _ hb' => ?_, ?_⟩; (first
        | exact Lw.val_rfl _); go_big_quiet_on))
    refine wpQuiet_nil ?_
    intro w4 hb4
    replace La : Hid (Lies _ _ _ _ _ _) := Lies.on La.out hb4
    replace Lb : Hid (Lies _ _ _ _ _ _) := Lies.on Lb.out hb4
    replace HT : Hid (Tab _) := HT.out.below hb4
    replace hA : Hid (Below W.heap.size W _) := below_join hA.out hb4
    clear hb4 HO11 HO29 La1 Lb1
    have La0 := La.out.c0
    have La1 := La.out.c1
    have La2 := La.out.c2
    have La3 := La.out.c3
    have LaL := La.out.lt
    have Lb0 := Lb.out.c0
    have Lb1 := Lb.out.c1
    have Lb2 := Lb.out.c2
    have Lb3 := Lb.out.c3
    have LbL := Lb.out.lt
    go_wp2_with (first | (go_at_call_of 13 (Value.int IntKind.u32 (a : Int)); refine (HBf.out _ HT.out).mono ?_; rintro e w' ⟨rfl, hb'⟩; replace La : Hid (Lies _ _ _ _ _ _) := (by first | exact Lies.on La.out hb' | exact Lies.on (Lies.alloc La.out _) hb'); replace Lb : Hid (Lies _ _ _ _ _ _) := (by first | exact Lies.on Lb.out hb' | exact Lies.on (Lies.alloc Lb.out _) hb'); replace HT : Hid (Tab _) := (by first | exact HT.out.below hb' | exact (HT.out.alloc _).below hb'); replace hA : Hid (Below W.heap.size W _) := (by first | exact below_join hA.out hb' | exact below_join (hA.out.alloc hA.out.size _) hb'); (try clear La0 La1 La2 La3 LaL); have La0 := La.out.c0; have La1 := La.out.c1; have La2 := La.out.c2; have La3 := La.out.c3; have LaL := La.out.lt; (try clear Lb0 Lb1 Lb2 Lb3 LbL); have Lb0 := Lb.out.c0; have Lb1 := Lb.out.c1; have Lb2 := Lb.out.c2; have Lb3 := Lb.out.c3; have LbL := Lb.out.lt; clear hb') | (go_at_call 13; refine (HBg.out _ HT.out).mono ?_; rintro e w' ⟨rfl, hb'⟩; replace La : Hid (Lies _ _ _ _ _ _) := (by first | exact Lies.on La.out hb' | exact Lies.on (Lies.alloc La.out _) hb'); replace Lb : Hid (Lies _ _ _ _ _ _) := (by first | exact Lies.on Lb.out hb' | exact Lies.on (Lies.alloc Lb.out _) hb'); replace HT : Hid (Tab _) := (by first | exact HT.out.below hb' | exact (HT.out.alloc _).below hb'); replace hA : Hid (Below W.heap.size W _) := (by first | exact below_join hA.out hb' | exact below_join (hA.out.alloc hA.out.size _) hb'); (try clear La0 La1 La2 La3 LaL); have La0 := La.out.c0; have La1 := La.out.c1; have La2 := La.out.c2; have La3 := La.out.c3; have LaL := La.out.lt; (try clear Lb0 Lb1 Lb2 Lb3 LbL); have Lb0 := Lb.out.c0; have Lb1 := Lb.out.c1; have Lb2 := Lb.out.c2; have Lb3 := Lb.out.c3; have LbL := Lb.out.lt; clear hb') | (go_at_call_of 15 (Value.int IntKind.u32 (a : Int)); refine (HAf.out _ HT.out).mono ?_; rintro e w' ⟨rfl, hb'⟩; replace La : Hid (Lies _ _ _ _ _ _) := (by first | exact Lies.on La.out hb' | exact Lies.on (Lies.alloc La.out _) hb'); replace Lb : Hid (Lies _ _ _ _ _ _) := (by first | exact Lies.on Lb.out hb' | exact Lies.on (Lies.alloc Lb.out _) hb'); replace HT : Hid (Tab _) := (by first | exact HT.out.below hb' | exact (HT.out.alloc _).below hb'); replace hA : Hid (Below W.heap.size W _) := (by first | exact below_join hA.out hb' | exact below_join (hA.out.alloc hA.out.size _) hb'); (try clear La0 La1 La2 La3 LaL); have La0 := La.out.c0; have La1 := La.out.c1; have La2 := La.out.c2; have La3 := La.out.c3; have LaL := La.out.lt; (try clear Lb0 Lb1 Lb2 Lb3 LbL); have Lb0 := Lb.out.c0; have Lb1 := Lb.out.c1; have Lb2 := Lb.out.c2; have Lb3 := Lb.out.c3; have LbL := Lb.out.lt; clear hb') | (go_at_call 15; refine (HAg.out _ HT.out).mono ?_; rintro e w' ⟨rfl, hb'⟩; replace La : Hid (Lies _ _ _ _ _ _) := (by first | exact Lies.on La.out hb' | exact Lies.on (Lies.alloc La.out _) hb'); replace Lb : Hid (Lies _ _ _ _ _ _) := (by first | exact Lies.on Lb.out hb' | exact Lies.on (Lies.alloc Lb.out _) hb'); replace HT : Hid (Tab _) := (by first | exact HT.out.below hb' | exact (HT.out.alloc _).below hb'); replace hA : Hid (Below W.heap.size W _) := (by first | exact below_join hA.out hb' | exact below_join (hA.out.alloc hA.out.size _) hb'); (try clear La0 La1 La2 La3 LaL); have La0 := La.out.c0; have La1 := La.out.c1; have La2 := La.out.c2; have La3 := La.out.c3; have LaL := La.out.lt; (try clear Lb0 Lb1 Lb2 Lb3 LbL); have Lb0 := Lb.out.c0; have Lb1 := Lb.out.c1; have Lb2 := Lb.out.c2; have Lb3 := Lb.out.c3; have LbL := Lb.out.lt; clear hb'))
    go_ret
    exact ⟨rfl, hA.out⟩
theorem walk (a0 : Int) (w0 : (Lit.int .u32 a0).wf = true) (a1 : Bool) (a2 : ByteArray) (w2 : a2.size ≤ maxLen) (W : World) (hT : Tab W) :
    Calls Tryd.prog 8 #[.int .u32 a0, .bool a1, .string a2] W fun e w' => e = .returned (.bool true) ∧ Below W.heap.size W w' := by
  obtain ⟨m0, rfl, h0⟩ := u32_nat w0
  exact walkN m0 h0 a1 a2 w2 W hT
theorem own : ownKnob Tryd.prog.godebug = none := by kernel_rfl
theorem contract (H : Type) (enc : TypeId × Value → H) (W : World) (base : Nat) (args : Array Value) (ds gs : List (DataW H)) (before : List MemPlace)
    (hval0 : ∀ (j : Nat) t v, Tryd.f8.params[j]? = some t → args[j]? = some v → Value.okWide Tryd.prog W .any base t v)
    (hW : DataW.Whole enc Tryd.prog Tryd.f8.params.toList Rows.frameFieldsSpec.vars false W args.toList ds gs before) (hL : laidMetH Tryd.prog Rows.frameFieldsRow.laid W) :
    Calls Tryd.prog 8 args W fun e W' => ∃ v, e = .returned v ∧ Rows.frameFieldsSpec.post enc Tryd.prog Tryd.f8 false true false false W args v W' := by
  have hval : ∀ (j : Nat) t v, Tryd.f8.params[j]? = some t → args[j]? = some v → Value.okWide Tryd.prog W .any base t v := hval0
  have hW' := hW
  obtain ⟨p, q, hA0, hV, rfl, hfz, hnd⟩ := hW
  have hA : DataW.TrodAll enc Tryd.prog W 0 (fun _ => true) true Tryd.f8.params.toList args.toList ds p := hA0
  rw [Tryd.params8] at hA hval
  obtain ⟨v0, vs0, d0, ds0, p0, q0, hargs, rfl, rfl, h0, rr0⟩ := trodAll_cons hA
  obtain ⟨v1, vs1, d1, ds1, p1, q1, rfl, rfl, rfl, h1, rr1⟩ := trodAll_cons rr0
  obtain ⟨v2, vs2, d2, ds2, p2, q2, rfl, rfl, rfl, h2, rr2⟩ := trodAll_cons rr1
  obtain ⟨rfl, rfl, rfl⟩ := trodAll_nil rr2
  obtain rfl : args = #[v0, v1, v2] := by cases args; simp_all
  obtain ⟨rfl, rfl⟩ := trodVars_none hV
  obtain ⟨a0, rfl, rfl, rfl, w0⟩ := open_int Tryd.underlying22 (hval 0 22 v0 rfl rfl) h0
  obtain ⟨a1, rfl, rfl, rfl⟩ := open_bool Tryd.underlying4 (hval 1 4 v1 rfl rfl) h1
  obtain ⟨a2, rfl, rfl, rfl, w2⟩ := open_string Tryd.underlying9 (hval 2 9 v2 rfl rfl) h2
  clear hA0 hval0
  refine (walk a0 w0 a1 a2 w2 W (tab_of_laid hL)).mono fun e W' ⟨he, bel⟩ => ?_
  subst he
  exact ⟨_, rfl, _, _, _, [], _, [], hW', trodAll_mk1 (shut_bool Tryd.underlying4 _), (trodAll_cons_mk (shut_int Tryd.underlying22 w0) (trodAll_cons_mk (shut_bool Tryd.underlying4 a1) (trodAll_cons_mk (shut_string Tryd.underlying9 w2) trodAll_mk0))), rfl, bel.frame _, fun h => by cases h⟩
theorem laid_met (os : Os) : laidMet Tryd.prog Rows.frameFieldsRow.laid ((tabWorld os).forCall (fun _ _ => 0) ⟨#[], #[.int .u32 0, .bool false, .string ByteArray.empty], []⟩).memory :=
  laidMet_of_run' 8 (by kernel_rfl) (by kernel_rfl)
theorem reads (os : Os) {H : Type} (enc : TypeId × Value → H) : ∃ places, DataW.whole enc Tryd.prog ((tabWorld os).forCall (fun _ _ => 0) ⟨#[], #[.int .u32 0, .bool false, .string ByteArray.empty], []⟩).memory Tryd.f8.params.toList Rows.frameFieldsSpec.vars false #[Value.int .u32 0, .bool false, .string ByteArray.empty].toList 8 = some ([.lit (.int .u32 0), .lit (.bool false), .lit (.string [])], [], places) :=
  ⟨[], by kernel_rfl⟩
set_option maxRecDepth 100000 in
theorem lifted (os : Os) (started : os.Started) (H : Type) (enc : TypeId × Value → H) (F : Stop.Interp) :
    ReturnsInHanded {} Tryd.checked os 8 .any ((OpenSpec.ofChange Rows.frameFieldsSpec).preRow enc Tryd.prog Tryd.f8 Rows.frameFieldsRow.domain false Rows.frameFieldsRow.laid) (((OpenSpec.ofChange Rows.frameFieldsSpec).at F).post enc Tryd.prog Tryd.f8 false true false false) := by
  obtain ⟨places, hx⟩ := reads os enc
  refine returnsInHanded_of_row (C := Tryd.checked) (s := OpenSpec.ofChange Rows.frameFieldsSpec) own started (by kernel_rfl) Tryd.func8
    (witness_row_at (enc := enc) (C := Tryd.checked) false (tabWorld os) #[.int .u32 0, .bool false, .string ByteArray.empty] rfl (by kernel_rfl) (by kernel_rfl) (by kernel_rfl)
      (OpenSpec.preRow_of_cond 8 hx (by kernel_rfl) (fun k hk => by cases hk) (by kernel_rfl) (laid_met os))) ?_
  intro W base args ds gs before hval hW _ _ _ hL _ _
  exact contract H enc W base args ds gs before hval hW hL
theorem said : Rows.FrameFieldsSaid :=
  OpenClaim.holds_of_cond 8 Tryd.f8 rfl rfl rfl rfl rfl rfl rfl ⟨rfl, rfl, rfl, rfl, rfl⟩ rfl rfl rfl rfl rfl (by kernel_rfl) Tryd.func8 (by kernel_rfl)
    (of_decide_eq_true (by kernel_rfl)) (by unfold Func.isWrapper; first | (rw [if_pos (by decide +kernel)]; kernel_rfl) | (rw [if_neg (by decide +kernel)]; exact ⟨rfl, rfl⟩))
    (fun os started H enc _ F => by rw [OpenClaim.pre_eq_preRow]; exact lifted os started H enc F)
theorem plain (f : FuncId) (fn : Func) (hf : Tryd.pinned.checked.prog.funcNamed "ostinato/ostinatolaw3.FrameFields" = some f) (hfn : Tryd.pinned.checked.prog.funcs[f]? = some fn) :
    false = Tryd.pinned.checked.prog.looks [] ∧ ∀ (j : Nat) t, fn.params[j]? = some t → Tryd.pinned.checked.prog.wantsStandIn t = false := by
  obtain rfl : f = 8 := Option.some.inj ((show Tryd.prog.funcNamed "ostinato/ostinatolaw3.FrameFields" = some 8 by kernel_rfl).symm.trans hf) |>.symm
  obtain rfl : fn = Tryd.f8 := (Option.some.inj (Tryd.func8.symm.trans hfn)).symm
  refine ⟨by kernel_rfl, fun j t ht => ?_⟩
  rw [Tryd.params8] at ht
  have hm : t ∈ [22, 4, 9] := by simpa using Array.mem_of_getElem? ht
  have hall : ([22, 4, 9].all fun u => !Tryd.prog.wantsStandIn u) = true := by kernel_rfl
  exact (show Tryd.prog.wantsStandIn t = false by simpa using List.all_eq_true.1 hall t hm)
end Go.Proofs.YtfnbkehabadpmaaDoor.frameFields
namespace Go.Proofs.YtfnbkehabadpmaaDoor
/-- The statement. -/
theorem frameFields_holds : Rows.FrameFieldsCardSaid :=
  Claim7.holds_tied_plain_at .later [] _ _ _ _ frameFields.said (fun _ h => by cases h) (by kernel_rfl) (fun _ h => by cases h) frameFields_row_tie rfl ⟨rfl, rfl⟩ (by kernel_rfl) rfl frameFields.plain (by kernel_rfl)
#print axioms frameFields_holds
end Go.Proofs.YtfnbkehabadpmaaDoor
