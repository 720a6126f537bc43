/- FrameBack: what is written is read as the same frame, whatever is behind it; cut off it is too short. No condition but the row's own: the table of widths holds what the program's text lays. -/
import Derived.Test.YtfnbkehabadpmaaDoorGl
namespace Go.Proofs.YtfnbkehabadpmaaDoor.frameBack
open Go.ChangeShapes Go.WideShapes Go.ChangeAt Go.RowKit
open Go.ChangeMaps (open_string shut_string)
set_option linter.unusedVariables false
theorem body_len {x : Bool} {n : Nat} {r : Bool} {d : List UInt8} (h : Fm.isF x n r d = true) : (Fm.body0 x n r d).length ≤ 103 ∧ 19 ≤ (Fm.body0 x n r d).length := by
  rw [Fm.length_body0]
  have := (Fm.isF_parts h).2.1
  split <;> omega
theorem read_cat (bs : List Bool) (more : ByteArray) : Bm.read (ByteArray.mk (Bm.row bs).toArray ++ more).data.toList = bs ++ Bm.read more.data.toList := by
  rw [Joins.data_append]
  show Bm.read (Bm.row bs ++ more.data.toList) = _
  unfold Bm.read
  rw [List.map_append]
  congr 1
  exact Bm.read_row bs
theorem read_front (bs : List Bool) (k : Nat) : Bm.read ((ByteArray.mk (Bm.row bs).toArray).extract 0 k).data.toList = bs.take k := by
  rw [Fm.read_extract]
  show Fm.cut (Bm.read (Bm.row bs)) 0 (k - 0) = _
  rw [Bm.read_row, Nat.sub_zero]
  rfl
theorem parse_more {x : Bool} {n : Nat} {r : Bool} {d : ByteArray} (h : Fm.isF x n r d.data.toList = true) (more : ByteArray) (hm : more.size ≤ 60) (w : World) (hT : Tab w) :
    Calls Tryd.prog 21 #[.string (ByteArray.mk (Bm.row (Fm.body0 x n r d.data.toList)).toArray ++ more)] w fun e w' => e = .returned (.tuple #[.agg #[.bool x, .int .u32 n, .bool r, .string d], .int .i64 ((Fm.body0 x n r d.data.toList).length : Int), .int .i64 0]) ∧ Below w.heap.size w w' := by
  have hl := body_len h
  have := fParse_any (ByteArray.mk (Bm.row (Fm.body0 x n r d.data.toList)).toArray ++ more) w hT (by rw [ByteArray.size_append, size_str, Bm.length_row]; omega)
  rw [read_cat, Fm.parse_body h] at this
  refine this.mono fun e w' ⟨he, hw⟩ => ⟨he.trans ?_, hw⟩
  unfold pfv
  simp only
  rw [Joins.bytes_eta]
  rfl
theorem parse_less {x : Bool} {n : Nat} {r : Bool} {d : ByteArray} (h : Fm.isF x n r d.data.toList = true) (k : Nat) (hk : k < (Fm.body0 x n r d.data.toList).length) (w : World) (hT : Tab w) :
    Calls Tryd.prog 21 #[.string ((ByteArray.mk (Bm.row (Fm.body0 x n r d.data.toList)).toArray).extract 0 k)] w fun e w' => e = .returned (.tuple #[.agg #[.bool false, .int .u32 0, .bool false, .string ⟨#[]⟩], .int .i64 0, .int .i64 10]) ∧ Below w.heap.size w w' := by
  have hl := body_len h
  have := fParse_any ((ByteArray.mk (Bm.row (Fm.body0 x n r d.data.toList)).toArray).extract 0 k) w hT (by rw [ByteArray.size_extract, size_str, Bm.length_row]; omega)
  rw [read_front, Fm.parse_cut h k hk] at this
  exact this
theorem front {x : Bool} {n : Nat} {r : Bool} {d : List UInt8} : (ByteArray.mk (Bm.row (Fm.body0 x n r d)).toArray).extract 0 (Fm.arb0 x n r).length = ByteArray.mk (Bm.row (Fm.arb0 x n r)).toArray := by
  apply ByteArray.ext
  apply Array.toList_inj.1
  rw [Lib.extract_data]
  show List.take ((Fm.arb0 x n r).length - 0) (List.drop 0 (Bm.row (Fm.body0 x n r d))) = Bm.row (Fm.arb0 x n r)
  rw [List.drop_zero, Nat.sub_zero]
  unfold Bm.row
  rw [← List.map_take, Fm.arb_take]
theorem arb_lt (x : Bool) (n : Nat) (r : Bool) (d : List UInt8) : (Fm.arb0 x n r).length < (Fm.body0 x n r d).length := by
  rw [Fm.length_body0, Fm.length_arb0]; cases x <;> simp <;> omega
set_option maxRecDepth 100000 in
set_option maxHeartbeats 4000000 in
theorem walkN (x0 : Bool) (n0 : Nat) (r0 : Bool) (d0 : ByteArray) (h0 : n0 < 4294967296) (a1 : ByteArray) (w1 : a1.size ≤ maxLen) (a2 : Nat) (h2 : a2 < 256) (W : World) (hT : Tab W) :
    Calls Tryd.prog 5 #[.agg #[.bool x0, .int .u32 n0, .bool r0, .string d0], .string a1, .int .u8 (a2 : Int)] W fun e w' => e = .returned (.bool true) ∧ Below W.heap.size W w' := by
  unfold maxLen at w1
  have HI0 : Hid (∀ w, Tab w → Calls Tryd.prog 11 #[.agg #[.bool x0, .int .u32 n0, .bool r0, .string d0]] w fun e w' => e = .returned (.bool (Fm.isF x0 n0 r0 d0.data.toList)) ∧ Below w.heap.size w w') := fun w hT => fIs_any x0 n0 r0 d0 w hT
  have HT : Hid (Tab _) := hT.alloc (.cells #[.bool x0, .int .u32 n0, .bool r0, .string d0] 24)
  have hA : Hid (Below W.heap.size W _) := (Below.refl _ _).alloc (Nat.le_refl _) (.cells #[.bool x0, .int .u32 n0, .bool r0, .string d0] 24)
  have La : Hid (Lies _ _ _ _ _ _) := Lies.new W x0 n0 r0 d0
  clear hT
  by_cases c1 : 60 < a1.size
  · go_enter Tryd.func5, Tryd.ntmps5
    go_wp2_with (first | (go_at_call 9; refine (known3_any _ HT.out).mono ?_; rintro e w' ⟨rfl, hb'⟩; replace La : Hid (Lies _ _ _ _ _ _) := (by first | exact Lies.on La.out hb' | exact Lies.on (Lies.alloc La.out _) hb'); replace HT : Hid (Tab _) := (by first | exact HT.out.below hb' | exact (HT.out.alloc _).below hb'); replace hA : Hid (Below W.heap.size W _) := (by first | exact below_join hA.out hb' | exact below_join (hA.out.alloc hA.out.size _) hb'); have La0 := La.out.c0; have La1 := La.out.c1; have La2 := La.out.c2; have La3 := La.out.c3; have LaL := La.out.lt; clear hb') | (go_at_call 10; refine (few_any _ _ _ _ _).mono ?_; rintro e w' ⟨rfl, hb'⟩; replace La : Hid (Lies _ _ _ _ _ _) := (by first | exact Lies.on La.out hb' | exact Lies.on (Lies.alloc La.out _) hb'); replace HT : Hid (Tab _) := (by first | exact HT.out.below hb' | exact (HT.out.alloc _).below hb'); replace hA : Hid (Below W.heap.size W _) := (by first | exact below_join hA.out hb' | exact below_join (hA.out.alloc hA.out.size _) hb'); have La0 := La.out.c0; have La1 := La.out.c1; have La2 := La.out.c2; have La3 := La.out.c3; have LaL := La.out.lt; clear hb') | (go_at_call 11; refine (HI0.out _ HT.out).mono ?_; rintro e w' ⟨rfl, hb'⟩; replace La : Hid (Lies _ _ _ _ _ _) := (by first | exact Lies.on La.out hb' | exact Lies.on (Lies.alloc La.out _) hb'); replace HT : Hid (Tab _) := (by first | exact HT.out.below hb' | exact (HT.out.alloc _).below hb'); replace hA : Hid (Below W.heap.size W _) := (by first | exact below_join hA.out hb' | exact below_join (hA.out.alloc hA.out.size _) hb'); have La0 := La.out.c0; have La1 := La.out.c1; have La2 := La.out.c2; have La3 := La.out.c3; have LaL := La.out.lt; clear hb'))
    go_ret
    exact ⟨rfl, hA.out⟩
  cases f0 : decide ((d0.size : Int) ≤ 20)
  case false =>
    go_enter Tryd.func5, Tryd.ntmps5
    go_wp2_with (first | (go_at_call 9; refine (known3_any _ HT.out).mono ?_; rintro e w' ⟨rfl, hb'⟩; replace La : Hid (Lies _ _ _ _ _ _) := (by first | exact Lies.on La.out hb' | exact Lies.on (Lies.alloc La.out _) hb'); replace HT : Hid (Tab _) := (by first | exact HT.out.below hb' | exact (HT.out.alloc _).below hb'); replace hA : Hid (Below W.heap.size W _) := (by first | exact below_join hA.out hb' | exact below_join (hA.out.alloc hA.out.size _) hb'); have La0 := La.out.c0; have La1 := La.out.c1; have La2 := La.out.c2; have La3 := La.out.c3; have LaL := La.out.lt; clear hb') | (go_at_call 10; refine (few_any _ _ _ _ _).mono ?_; rintro e w' ⟨rfl, hb'⟩; replace La : Hid (Lies _ _ _ _ _ _) := (by first | exact Lies.on La.out hb' | exact Lies.on (Lies.alloc La.out _) hb'); replace HT : Hid (Tab _) := (by first | exact HT.out.below hb' | exact (HT.out.alloc _).below hb'); replace hA : Hid (Below W.heap.size W _) := (by first | exact below_join hA.out hb' | exact below_join (hA.out.alloc hA.out.size _) hb'); have La0 := La.out.c0; have La1 := La.out.c1; have La2 := La.out.c2; have La3 := La.out.c3; have LaL := La.out.lt; clear hb') | (go_at_call 11; refine (HI0.out _ HT.out).mono ?_; rintro e w' ⟨rfl, hb'⟩; replace La : Hid (Lies _ _ _ _ _ _) := (by first | exact Lies.on La.out hb' | exact Lies.on (Lies.alloc La.out _) hb'); replace HT : Hid (Tab _) := (by first | exact HT.out.below hb' | exact (HT.out.alloc _).below hb'); replace hA : Hid (Below W.heap.size W _) := (by first | exact below_join hA.out hb' | exact below_join (hA.out.alloc hA.out.size _) hb'); have La0 := La.out.c0; have La1 := La.out.c1; have La2 := La.out.c2; have La3 := La.out.c3; have LaL := La.out.lt; clear hb'))
    go_ret
    exact ⟨rfl, hA.out⟩
  cases i0 : Fm.isF x0 n0 r0 d0.data.toList
  all_goals rw [i0] at HI0
  case false =>
    go_enter Tryd.func5, Tryd.ntmps5
    go_wp2_with (first | (go_at_call 9; refine (known3_any _ HT.out).mono ?_; rintro e w' ⟨rfl, hb'⟩; replace La : Hid (Lies _ _ _ _ _ _) := (by first | exact Lies.on La.out hb' | exact Lies.on (Lies.alloc La.out _) hb'); replace HT : Hid (Tab _) := (by first | exact HT.out.below hb' | exact (HT.out.alloc _).below hb'); replace hA : Hid (Below W.heap.size W _) := (by first | exact below_join hA.out hb' | exact below_join (hA.out.alloc hA.out.size _) hb'); have La0 := La.out.c0; have La1 := La.out.c1; have La2 := La.out.c2; have La3 := La.out.c3; have LaL := La.out.lt; clear hb') | (go_at_call 10; refine (few_any _ _ _ _ _).mono ?_; rintro e w' ⟨rfl, hb'⟩; replace La : Hid (Lies _ _ _ _ _ _) := (by first | exact Lies.on La.out hb' | exact Lies.on (Lies.alloc La.out _) hb'); replace HT : Hid (Tab _) := (by first | exact HT.out.below hb' | exact (HT.out.alloc _).below hb'); replace hA : Hid (Below W.heap.size W _) := (by first | exact below_join hA.out hb' | exact below_join (hA.out.alloc hA.out.size _) hb'); have La0 := La.out.c0; have La1 := La.out.c1; have La2 := La.out.c2; have La3 := La.out.c3; have LaL := La.out.lt; clear hb') | (go_at_call 11; refine (HI0.out _ HT.out).mono ?_; rintro e w' ⟨rfl, hb'⟩; replace La : Hid (Lies _ _ _ _ _ _) := (by first | exact Lies.on La.out hb' | exact Lies.on (Lies.alloc La.out _) hb'); replace HT : Hid (Tab _) := (by first | exact HT.out.below hb' | exact (HT.out.alloc _).below hb'); replace hA : Hid (Below W.heap.size W _) := (by first | exact below_join hA.out hb' | exact below_join (hA.out.alloc hA.out.size _) hb'); have La0 := La.out.c0; have La1 := La.out.c1; have La2 := La.out.c2; have La3 := La.out.c3; have LaL := La.out.lt; clear hb'))
    go_ret
    exact ⟨rfl, hA.out⟩
  have hbl := body_len i0
  have hal := arb_lt x0 n0 r0 d0.data.toList
  have HB : Hid (∀ w, Tab w → Calls Tryd.prog 13 #[.agg #[.bool x0, .int .u32 n0, .bool r0, .string d0]] w fun e w' => e = .returned (.string ⟨(Bm.row (Fm.body0 x0 n0 r0 d0.data.toList)).toArray⟩) ∧ Below w.heap.size w w') := fun w hT => by
    have := fBody_any x0 n0 r0 d0 w hT h0
    unfold Fm.body at this
    rw [if_pos i0] at this
    exact this
  have HC : Hid (∀ w, Tab w → Calls Tryd.prog 15 #[.agg #[.bool x0, .int .u32 n0, .bool r0, .string d0]] w fun e w' => e = .returned (.string ⟨(Bm.row (Fm.arb0 x0 n0 r0)).toArray⟩) ∧ Below w.heap.size w w') := fun w hT => by
    have := fArb_any x0 n0 r0 d0 w hT h0
    unfold Fm.arb at this
    rw [if_pos i0] at this
    exact this
  have HP : Hid (∀ w, Tab w → Calls Tryd.prog 21 #[.string (ByteArray.mk (Bm.row (Fm.body0 x0 n0 r0 d0.data.toList)).toArray ++ a1)] w fun e w' => e = .returned (.tuple #[.agg #[.bool x0, .int .u32 n0, .bool r0, .string d0], .int .i64 ((Fm.body0 x0 n0 r0 d0.data.toList).length : Int), .int .i64 0]) ∧ Below w.heap.size w w') := fun w hT => parse_more i0 a1 (by omega) w hT
  have HQ : Hid (∀ k, k < (Fm.body0 x0 n0 r0 d0.data.toList).length → ∀ w, Tab w → Calls Tryd.prog 21 #[.string ((ByteArray.mk (Bm.row (Fm.body0 x0 n0 r0 d0.data.toList)).toArray).extract 0 k)] w fun e w' => e = .returned (.tuple #[.agg #[.bool false, .int .u32 0, .bool false, .string ⟨#[]⟩], .int .i64 0, .int .i64 10]) ∧ Below w.heap.size w w') := fun k hk w hT => parse_less i0 k hk w hT
  have HF : Hid (_) := front (x := x0) (n := n0) (r := r0) (d := d0.data.toList)
  have hsB : (ByteArray.mk (Bm.row (Fm.body0 x0 n0 r0 d0.data.toList)).toArray).size = (Fm.body0 x0 n0 r0 d0.data.toList).length := by rw [size_str, Bm.length_row]
  have hsA : (ByteArray.mk (Bm.row (Fm.arb0 x0 n0 r0)).toArray).size = (Fm.arb0 x0 n0 r0).length := by rw [size_str, Bm.length_row]
  generalize ByteArray.mk (Bm.row (Fm.body0 x0 n0 r0 d0.data.toList)).toArray = BO at *
  generalize ByteArray.mk (Bm.row (Fm.arb0 x0 n0 r0)).toArray = AR at *
  generalize (Fm.body0 x0 n0 r0 d0.data.toList).length = bl at *
  generalize (Fm.arb0 x0 n0 r0).length = al at *
  have hk : ((a2 : Int) % (bl : Int)) = ((a2 % bl : Nat) : Int) := by simp
  have hkl : a2 % bl < bl := Nat.mod_lt _ (by omega)
  have HQk : Hid (_) := HQ.out (a2 % bl) hkl
  generalize a2 % bl = k at *
  subst hsB hsA
  clear i0 HQ
  have HF' := HF.out
  clear HF
  go_enter Tryd.func5, Tryd.ntmps5
  go_wp2_with (first | (go_at_call 9; refine (known3_any _ HT.out).mono ?_; rintro e w' ⟨rfl, hb'⟩; replace La : Hid (Lies _ _ _ _ _ _) := (by first | exact Lies.on La.out hb' | exact Lies.on (Lies.alloc La.out _) hb'); replace HT : Hid (Tab _) := (by first | exact HT.out.below hb' | exact (HT.out.alloc _).below hb'); replace hA : Hid (Below W.heap.size W _) := (by first | exact below_join hA.out hb' | exact below_join (hA.out.alloc hA.out.size _) hb'); have La0 := La.out.c0; have La1 := La.out.c1; have La2 := La.out.c2; have La3 := La.out.c3; have LaL := La.out.lt; clear hb') | (go_at_call 10; refine (few_any _ _ _ _ _).mono ?_; rintro e w' ⟨rfl, hb'⟩; replace La : Hid (Lies _ _ _ _ _ _) := (by first | exact Lies.on La.out hb' | exact Lies.on (Lies.alloc La.out _) hb'); replace HT : Hid (Tab _) := (by first | exact HT.out.below hb' | exact (HT.out.alloc _).below hb'); replace hA : Hid (Below W.heap.size W _) := (by first | exact below_join hA.out hb' | exact below_join (hA.out.alloc hA.out.size _) hb'); have La0 := La.out.c0; have La1 := La.out.c1; have La2 := La.out.c2; have La3 := La.out.c3; have LaL := La.out.lt; clear hb') | (go_at_call 11; refine (HI0.out _ HT.out).mono ?_; rintro e w' ⟨rfl, hb'⟩; replace La : Hid (Lies _ _ _ _ _ _) := (by first | exact Lies.on La.out hb' | exact Lies.on (Lies.alloc La.out _) hb'); replace HT : Hid (Tab _) := (by first | exact HT.out.below hb' | exact (HT.out.alloc _).below hb'); replace hA : Hid (Below W.heap.size W _) := (by first | exact below_join hA.out hb' | exact below_join (hA.out.alloc hA.out.size _) hb'); have La0 := La.out.c0; have La1 := La.out.c1; have La2 := La.out.c2; have La3 := La.out.c3; have LaL := La.out.lt; clear hb') | (go_at_call 13; refine (HB.out _ HT.out).mono ?_; rintro e w' ⟨rfl, hb'⟩; replace La : Hid (Lies _ _ _ _ _ _) := (by first | exact Lies.on La.out hb' | exact Lies.on (Lies.alloc La.out _) hb'); replace HT : Hid (Tab _) := (by first | exact HT.out.below hb' | exact (HT.out.alloc _).below hb'); replace hA : Hid (Below W.heap.size W _) := (by first | exact below_join hA.out hb' | exact below_join (hA.out.alloc hA.out.size _) hb'); have La0 := La.out.c0; have La1 := La.out.c1; have La2 := La.out.c2; have La3 := La.out.c3; have LaL := La.out.lt; clear hb') | (go_at_call 15; refine (HC.out _ HT.out).mono ?_; rintro e w' ⟨rfl, hb'⟩; replace La : Hid (Lies _ _ _ _ _ _) := (by first | exact Lies.on La.out hb' | exact Lies.on (Lies.alloc La.out _) hb'); replace HT : Hid (Tab _) := (by first | exact HT.out.below hb' | exact (HT.out.alloc _).below hb'); replace hA : Hid (Below W.heap.size W _) := (by first | exact below_join hA.out hb' | exact below_join (hA.out.alloc hA.out.size _) hb'); have La0 := La.out.c0; have La1 := La.out.c1; have La2 := La.out.c2; have La3 := La.out.c3; have LaL := La.out.lt; clear hb'))
  refine (HP.out _ HT.out).mono ?_
  rintro e w2 ⟨rfl, hb2⟩
  replace La : Hid (Lies _ _ _ _ _ _) := Lies.on La.out hb2
  replace HT : Hid (Tab _) := HT.out.below hb2
  replace hA : Hid (Below W.heap.size W _) := below_join hA.out hb2
  clear hb2 HP HI0 HB
  go_wp2_with fail
  refine (HQk.out _ (HT.out.alloc _)).mono ?_
  rintro e w3 ⟨rfl, hb3⟩
  have Lg : Hid (Lies _ _ _ _ _ _) := (Lies.new w2 x0 n0 r0 d0).on hb3
  replace La : Hid (Lies _ _ _ _ _ _) := (Lies.alloc La.out _).on hb3
  replace HT : Hid (Tab _) := (HT.out.alloc _).below hb3
  replace hA : Hid (Below W.heap.size W _) := below_join (hA.out.alloc hA.out.size _) hb3
  clear hb3 HQk
  have La0 := La.out.c0
  have La1 := La.out.c1
  have La2 := La.out.c2
  have La3 := La.out.c3
  have LaL := La.out.lt
  go_wp2_with fail
  refine (HC.out _ (HT.out.alloc _)).mono ?_
  rintro e w4 ⟨rfl, hb4⟩
  replace Lg : Hid (Lies _ _ _ _ _ _) := (Lies.alloc Lg.out _).on hb4
  replace La : Hid (Lies _ _ _ _ _ _) := (Lies.alloc La.out _).on hb4
  replace hA : Hid (Below W.heap.size W _) := below_join (hA.out.alloc hA.out.size _) hb4
  clear hb4 HC La0 La1 La2 La3 LaL
  have La0 := La.out.c0
  have La1 := La.out.c1
  have La2 := La.out.c2
  have La3 := La.out.c3
  have LaL := La.out.lt
  have Lg0 := Lg.out.c0
  have Lg1 := Lg.out.c1
  have Lg2 := Lg.out.c2
  have Lg3 := Lg.out.c3
  have LgL := Lg.out.lt
  go_wp2
  go_ret
  exact ⟨rfl, hA.out⟩
theorem walk (x0 : Bool) (n0 : Int) (r0 : Bool) (d0 : ByteArray) (w0 : (Lit.int .u32 n0).wf = true) (u0 : d0.size ≤ maxLen) (a1 : ByteArray) (w1 : a1.size ≤ maxLen) (a2 : Int) (w2 : (Lit.int .u8 a2).wf = true) (W : World) (hT : Tab W) :
    Calls Tryd.prog 5 #[.agg #[.bool x0, .int .u32 n0, .bool r0, .string d0], .string a1, .int .u8 a2] W fun e w' => e = .returned (.bool true) ∧ Below W.heap.size W w' := by
  obtain ⟨m0, rfl, h0⟩ := u32_nat w0
  obtain ⟨m2, rfl, h2⟩ := u8_nat w2
  exact walkN x0 m0 r0 d0 h0 a1 w1 m2 h2 W hT
theorem own : ownKnob Tryd.prog.godebug = none := by kernel_rfl
theorem contract (H : Type) (enc : TypeId × Value → H) (W : World) (base : Nat) (args : Array Value) (ds gs : List (DataW H)) (before : List MemPlace)
    (hval0 : ∀ (j : Nat) t v, Tryd.f5.params[j]? = some t → args[j]? = some v → Value.okWide Tryd.prog W .any base t v)
    (hW : DataW.Whole enc Tryd.prog Tryd.f5.params.toList Rows.frameBackSpec.vars false W args.toList ds gs before) (hL : laidMetH Tryd.prog Rows.frameBackRow.laid W) :
    Calls Tryd.prog 5 args W fun e W' => ∃ v, e = .returned v ∧ Rows.frameBackSpec.post enc Tryd.prog Tryd.f5 false true false false W args v W' := by
  have hval : ∀ (j : Nat) t v, Tryd.f5.params[j]? = some t → args[j]? = some v → Value.okWide Tryd.prog W .any base t v := hval0
  have hW' := hW
  obtain ⟨p, q, hA0, hV, rfl, hfz, hnd⟩ := hW
  have hA : DataW.TrodAll enc Tryd.prog W 0 (fun _ => true) true Tryd.f5.params.toList args.toList ds p := hA0
  rw [Tryd.params5] at hA hval
  obtain ⟨v0, vs0, d0, ds0, p0, q0, hargs, rfl, rfl, h0, rr0⟩ := trodAll_cons hA
  obtain ⟨v1, vs1, d1, ds1, p1, q1, rfl, rfl, rfl, h1, rr1⟩ := trodAll_cons rr0
  obtain ⟨v2, vs2, d2, ds2, p2, q2, rfl, rfl, rfl, h2, rr2⟩ := trodAll_cons rr1
  obtain ⟨rfl, rfl, rfl⟩ := trodAll_nil rr2
  obtain rfl : args = #[v0, v1, v2] := by cases args; simp_all
  obtain ⟨rfl, rfl⟩ := trodVars_none hV
  obtain ⟨e0, e1, e2, e3, y0, y1, y2, y3, n0, rfl, rfl, rfl, k0, k1, k2, k3⟩ := Joins.open_agg4 Tryd.underlying24 (by kernel_rfl) (by kernel_rfl) (hval 0 24 v0 rfl rfl) h0
  obtain ⟨x0, hx0, rfl⟩ := DataW.trod_bool Tryd.underlying4 k0
  obtain ⟨n0, hx1, rfl, w0⟩ := DataW.trod_int Tryd.underlying22 k1
  obtain ⟨r0, hx2, rfl⟩ := DataW.trod_bool Tryd.underlying4 k2
  obtain ⟨d0, hx3, rfl, u0⟩ := DataW.trod_string Tryd.underlying9 k3
  obtain rfl := List.singleton_inj.1 hx0
  obtain rfl := List.singleton_inj.1 hx1
  obtain rfl := List.singleton_inj.1 hx2
  obtain rfl := List.singleton_inj.1 hx3
  clear k0 k1 k2 k3 hx0 hx1 hx2 hx3
  obtain ⟨a1, rfl, rfl, rfl, w1⟩ := open_string Tryd.underlying9 (hval 1 9 v1 rfl rfl) h1
  obtain ⟨a2, rfl, rfl, rfl, w2⟩ := open_int Tryd.underlying5 (hval 2 5 v2 rfl rfl) h2
  clear hA0 hval0
  refine (walk x0 n0 r0 d0 w0 u0 a1 w1 a2 w2 W (tab_of_laid hL)).mono fun e W' ⟨he, bel⟩ => ?_
  subst he
  exact ⟨_, rfl, _, _, _, [], _, [], hW', trodAll_mk1 (shut_bool Tryd.underlying4 _), (trodAll_cons_mk (shut_frame w0 u0) (trodAll_cons_mk (shut_string Tryd.underlying9 w1) (trodAll_cons_mk (shut_int Tryd.underlying5 w2) trodAll_mk0))), rfl, bel.frame _, fun h => by cases h⟩
theorem laid_met (os : Os) : laidMet Tryd.prog Rows.frameBackRow.laid ((tabWorld os).forCall (fun _ _ => 0) ⟨#[], #[.agg #[.bool false, .int .u32 0, .bool false, .string ByteArray.empty], .string ByteArray.empty, .int .u8 0], []⟩).memory :=
  laidMet_of_run' 8 (by kernel_rfl) (by kernel_rfl)
theorem reads (os : Os) {H : Type} (enc : TypeId × Value → H) : ∃ places, DataW.whole enc Tryd.prog ((tabWorld os).forCall (fun _ _ => 0) ⟨#[], #[.agg #[.bool false, .int .u32 0, .bool false, .string ByteArray.empty], .string ByteArray.empty, .int .u8 0], []⟩).memory Tryd.f5.params.toList Rows.frameBackSpec.vars false #[Value.agg #[.bool false, .int .u32 0, .bool false, .string ByteArray.empty], .string ByteArray.empty, .int .u8 0].toList 8 = some ([.agg [.lit (.bool false), .lit (.int .u32 0), .lit (.bool false), .lit (.string [])], .lit (.string []), .lit (.int .u8 0)], [], places) :=
  ⟨[], by kernel_rfl⟩
set_option maxRecDepth 100000 in
theorem lifted (os : Os) (started : os.Started) (H : Type) (enc : TypeId × Value → H) (F : Stop.Interp) :
    ReturnsInHanded {} Tryd.checked os 5 .any ((OpenSpec.ofChange Rows.frameBackSpec).preRow enc Tryd.prog Tryd.f5 Rows.frameBackRow.domain false Rows.frameBackRow.laid) (((OpenSpec.ofChange Rows.frameBackSpec).at F).post enc Tryd.prog Tryd.f5 false true false false) := by
  obtain ⟨places, hx⟩ := reads os enc
  refine returnsInHanded_of_row (C := Tryd.checked) (s := OpenSpec.ofChange Rows.frameBackSpec) own started (by kernel_rfl) Tryd.func5
    (witness_row_at (enc := enc) (C := Tryd.checked) false (tabWorld os) #[.agg #[.bool false, .int .u32 0, .bool false, .string ByteArray.empty], .string ByteArray.empty, .int .u8 0] rfl (by kernel_rfl) (by kernel_rfl) (by kernel_rfl)
      (OpenSpec.preRow_of_cond 8 hx (by kernel_rfl) (fun k hk => by cases hk) (by kernel_rfl) (laid_met os))) ?_
  intro W base args ds gs before hval hW _ _ _ hL _ _
  exact contract H enc W base args ds gs before hval hW hL
theorem said : Rows.FrameBackSaid :=
  OpenClaim.holds_of_cond 5 Tryd.f5 rfl rfl rfl rfl rfl rfl rfl ⟨rfl, rfl, rfl, rfl, rfl⟩ rfl rfl rfl rfl rfl (by kernel_rfl) Tryd.func5 (by kernel_rfl)
    (of_decide_eq_true (by kernel_rfl)) (by unfold Func.isWrapper; first | (rw [if_pos (by decide +kernel)]; kernel_rfl) | (rw [if_neg (by decide +kernel)]; exact ⟨rfl, rfl⟩))
    (fun os started H enc _ F => by rw [OpenClaim.pre_eq_preRow]; exact lifted os started H enc F)
theorem plain (f : FuncId) (fn : Func) (hf : Tryd.pinned.checked.prog.funcNamed "ostinato/ostinatolaw3.FrameBack" = some f) (hfn : Tryd.pinned.checked.prog.funcs[f]? = some fn) :
    false = Tryd.pinned.checked.prog.looks [] ∧ ∀ (j : Nat) t, fn.params[j]? = some t → Tryd.pinned.checked.prog.wantsStandIn t = false := by
  obtain rfl : f = 5 := Option.some.inj ((show Tryd.prog.funcNamed "ostinato/ostinatolaw3.FrameBack" = some 5 by kernel_rfl).symm.trans hf) |>.symm
  obtain rfl : fn = Tryd.f5 := (Option.some.inj (Tryd.func5.symm.trans hfn)).symm
  refine ⟨by kernel_rfl, fun j t ht => ?_⟩
  rw [Tryd.params5] at ht
  have hm : t ∈ [24, 9, 5] := by simpa using Array.mem_of_getElem? ht
  have hall : ([24, 9, 5].all fun u => !Tryd.prog.wantsStandIn u) = true := by kernel_rfl
  exact (show Tryd.prog.wantsStandIn t = false by simpa using List.all_eq_true.1 hall t hm)
end Go.Proofs.YtfnbkehabadpmaaDoor.frameBack
namespace Go.Proofs.YtfnbkehabadpmaaDoor
/-- The statement. -/
theorem frameBack_holds : Rows.FrameBackCardSaid :=
  Claim7.holds_tied_plain_at .later [] _ _ _ _ frameBack.said (fun _ h => by cases h) (by kernel_rfl) (fun _ h => by cases h) frameBack_row_tie rfl ⟨rfl, rfl⟩ (by kernel_rfl) rfl frameBack.plain (by kernel_rfl)
#print axioms frameBack_holds
end Go.Proofs.YtfnbkehabadpmaaDoor
