/- CodeBack: what is sent is taken as it was, whatever is behind it; cut off it is too short. No condition but the row's own: the table of widths holds what the program's text lays. -/
import Derived.Test.YtaphdehhnnglgaaDoorYk
import Derived.Test.YtaphdehhnnglgaaDoorRw
namespace Go.Proofs.YtaphdehhnnglgaaDoor.codeBack
open Go.ChangeShapes Go.WideShapes Go.ChangeAt Go.RowKit
open Go.ChangeMaps (open_string shut_string)
set_option linter.unusedVariables false
theorem read_cat (l : List Bool) (m : ByteArray) : Bm.read (ByteArray.mk (Bm.row l).toArray ++ m).data.toList = l ++ Bm.read m.data.toList := by
  have h : (ByteArray.mk (Bm.row l).toArray ++ m).data.toList = Bm.row l ++ m.data.toList := by simp
  rw [h]
  unfold Bm.read
  rw [List.map_append]
  congr 1
  exact Bm.read_row l
set_option maxRecDepth 100000 in
set_option maxHeartbeats 4000000 in
theorem walkN (x0 : Bool) (n0 : Nat) (r0 : Bool) (d0 : ByteArray) (h0 : n0 < 4294967296) (a1 : ByteArray) (w1 : a1.size ≤ maxLen) (a2 : Nat) (h2 : a2 < 256) (W : World) (hT : Tab W) :
    Calls Tryd.prog 6 #[.agg #[.bool x0, .int .u32 n0, .bool r0, .string d0], .string a1, .int .u8 (a2 : Int)] W fun e w' => e = .returned (.bool true) ∧ Below W.heap.size W w' := by
  unfold maxLen at w1
  have HC : Hid (∀ w, Tab w → Calls Tryd.prog 13 #[.agg #[.bool x0, .int .u32 n0, .bool r0, .string d0]] w fun e w' => e = .returned (.string ⟨(Bm.row (Cm.enc x0 n0 r0 d0.data.toList)).toArray⟩) ∧ Below w.heap.size w w') := fun w hT => cEnc_any x0 n0 r0 d0 w hT h0
  have HL : Hid (∀ w, Tab w → Calls Tryd.prog 14 #[.agg #[.bool x0, .int .u32 n0, .bool r0, .string d0]] w fun e w' => e = .returned (.int .i64 ((Cm.enc x0 n0 r0 d0.data.toList).length : Int)) ∧ Below w.heap.size w w') := fun w hT => cLen_any x0 n0 r0 d0 w hT h0
  have HK : Hid (∀ w, Tab w → Calls Tryd.prog 15 #[.agg #[.bool x0, .int .u32 n0, .bool r0, .string d0]] w fun e w' => e = .returned (.string ⟨(Bm.row (Cm.ack x0 n0 r0 d0.data.toList)).toArray⟩) ∧ Below w.heap.size w w') := fun w hT => cAck_any x0 n0 r0 d0 w hT h0
  have HT : Hid (Tab _) := hT.alloc (.cells #[.bool x0, .int .u32 n0, .bool r0, .string d0] 24)
  have hA : Hid (Below W.heap.size W _) := (Below.refl _ _).alloc (Nat.le_refl _) (.cells #[.bool x0, .int .u32 n0, .bool r0, .string d0] 24)
  have La : Hid (Lies _ _ _ _ _ _) := Lies.new W x0 n0 r0 d0
  clear hT
  cases f0 : decide ((d0.size : Int) ≤ 20)
  case false =>
    go_enter Tryd.func6, Tryd.ntmps6
    go_wp2_with (first | (go_at_call 9; refine (known4_any _ HT.out).mono ?_; rintro e w' ⟨rfl, hb'⟩; replace La : Hid (Lies _ _ _ _ _ _) := (by first | exact Lies.on La.out hb' | exact Lies.on (Lies.alloc La.out _) hb'); replace HT : Hid (Tab _) := (by first | exact HT.out.below hb' | exact (HT.out.alloc _).below hb'); replace hA : Hid (Below W.heap.size W _) := (by first | exact below_join hA.out hb' | exact below_join (hA.out.alloc hA.out.size _) hb'); (try clear La0 La1 La2 La3 LaL); have La0 := La.out.c0; have La1 := La.out.c1; have La2 := La.out.c2; have La3 := La.out.c3; have LaL := La.out.lt; clear hb') | (go_at_call 10; refine (few4_any _ _ _ _ _).mono ?_; rintro e w' ⟨rfl, hb'⟩; replace La : Hid (Lies _ _ _ _ _ _) := (by first | exact Lies.on La.out hb' | exact Lies.on (Lies.alloc La.out _) hb'); replace HT : Hid (Tab _) := (by first | exact HT.out.below hb' | exact (HT.out.alloc _).below hb'); replace hA : Hid (Below W.heap.size W _) := (by first | exact below_join hA.out hb' | exact below_join (hA.out.alloc hA.out.size _) hb'); (try clear La0 La1 La2 La3 LaL); have La0 := La.out.c0; have La1 := La.out.c1; have La2 := La.out.c2; have La3 := La.out.c3; have LaL := La.out.lt; clear hb'))
    all_goals
      go_ret
      exact ⟨rfl, hA.out⟩
  by_cases c1 : 60 < a1.size
  · go_enter Tryd.func6, Tryd.ntmps6
    go_wp2_with (first | (go_at_call 9; refine (known4_any _ HT.out).mono ?_; rintro e w' ⟨rfl, hb'⟩; replace La : Hid (Lies _ _ _ _ _ _) := (by first | exact Lies.on La.out hb' | exact Lies.on (Lies.alloc La.out _) hb'); replace HT : Hid (Tab _) := (by first | exact HT.out.below hb' | exact (HT.out.alloc _).below hb'); replace hA : Hid (Below W.heap.size W _) := (by first | exact below_join hA.out hb' | exact below_join (hA.out.alloc hA.out.size _) hb'); (try clear La0 La1 La2 La3 LaL); have La0 := La.out.c0; have La1 := La.out.c1; have La2 := La.out.c2; have La3 := La.out.c3; have LaL := La.out.lt; clear hb') | (go_at_call 10; refine (few4_any _ _ _ _ _).mono ?_; rintro e w' ⟨rfl, hb'⟩; replace La : Hid (Lies _ _ _ _ _ _) := (by first | exact Lies.on La.out hb' | exact Lies.on (Lies.alloc La.out _) hb'); replace HT : Hid (Tab _) := (by first | exact HT.out.below hb' | exact (HT.out.alloc _).below hb'); replace hA : Hid (Below W.heap.size W _) := (by first | exact below_join hA.out hb' | exact below_join (hA.out.alloc hA.out.size _) hb'); (try clear La0 La1 La2 La3 LaL); have La0 := La.out.c0; have La1 := La.out.c1; have La2 := La.out.c2; have La3 := La.out.c3; have LaL := La.out.lt; clear hb'))
    all_goals
      go_ret
      exact ⟨rfl, hA.out⟩
  cases i0 : Fm.isF x0 n0 r0 d0.data.toList
  case false =>
    have e0 : Cm.enc x0 n0 r0 d0.data.toList = [] := by unfold Cm.enc; rw [i0]; rfl
    rw [e0] at HL
    go_enter Tryd.func6, Tryd.ntmps6
    go_wp2_with (first | (go_at_call 9; refine (known4_any _ HT.out).mono ?_; rintro e w' ⟨rfl, hb'⟩; replace La : Hid (Lies _ _ _ _ _ _) := (by first | exact Lies.on La.out hb' | exact Lies.on (Lies.alloc La.out _) hb'); replace HT : Hid (Tab _) := (by first | exact HT.out.below hb' | exact (HT.out.alloc _).below hb'); replace hA : Hid (Below W.heap.size W _) := (by first | exact below_join hA.out hb' | exact below_join (hA.out.alloc hA.out.size _) hb'); (try clear La0 La1 La2 La3 LaL); have La0 := La.out.c0; have La1 := La.out.c1; have La2 := La.out.c2; have La3 := La.out.c3; have LaL := La.out.lt; clear hb') | (go_at_call 10; refine (few4_any _ _ _ _ _).mono ?_; rintro e w' ⟨rfl, hb'⟩; replace La : Hid (Lies _ _ _ _ _ _) := (by first | exact Lies.on La.out hb' | exact Lies.on (Lies.alloc La.out _) hb'); replace HT : Hid (Tab _) := (by first | exact HT.out.below hb' | exact (HT.out.alloc _).below hb'); replace hA : Hid (Below W.heap.size W _) := (by first | exact below_join hA.out hb' | exact below_join (hA.out.alloc hA.out.size _) hb'); (try clear La0 La1 La2 La3 LaL); have La0 := La.out.c0; have La1 := La.out.c1; have La2 := La.out.c2; have La3 := La.out.c3; have LaL := La.out.lt; clear hb') | (go_at_call 14; refine (HL.out _ HT.out).mono ?_; rintro e w' ⟨rfl, hb'⟩; replace La : Hid (Lies _ _ _ _ _ _) := (by first | exact Lies.on La.out hb' | exact Lies.on (Lies.alloc La.out _) hb'); replace HT : Hid (Tab _) := (by first | exact HT.out.below hb' | exact (HT.out.alloc _).below hb'); replace hA : Hid (Below W.heap.size W _) := (by first | exact below_join hA.out hb' | exact below_join (hA.out.alloc hA.out.size _) hb'); (try clear La0 La1 La2 La3 LaL); have La0 := La.out.c0; have La1 := La.out.c1; have La2 := La.out.c2; have La3 := La.out.c3; have LaL := La.out.lt; clear hb'))
    all_goals
      go_ret
      exact ⟨rfl, hA.out⟩
  have e0 : Cm.enc x0 n0 r0 d0.data.toList = Cm.enc0 x0 n0 r0 d0.data.toList := by unfold Cm.enc; rw [i0]; rfl
  have e1 : Cm.ack x0 n0 r0 d0.data.toList = Cm.ack0 x0 n0 r0 d0.data.toList := by unfold Cm.ack; rw [i0]; rfl
  have hl := Cm.enc_len i0
  have hz := size_rowr (Cm.enc0 x0 n0 r0 d0.data.toList)
  have hzA := size_rowr (Cm.ack0 x0 n0 r0 d0.data.toList)
  have hAE : (Cm.ack0 x0 n0 r0 d0.data.toList).length = (Cm.enc0 x0 n0 r0 d0.data.toList).length := by rw [← Cm.turn_ack, Bm.length_turn]
  rw [e0] at HC HL
  rw [e1] at HK
  rw [hAE] at hzA
  rw [← hz] at HL
  have hne1 : 44 ≤ (Cm.enc0 x0 n0 r0 d0.data.toList).length := by
    have := hl.1
    split at this <;> omega
  have hne2 := hl.2.2
  have H1 : Hid (∀ w, Tab w → Calls Tryd.prog 16 #[.string (ByteArray.mk (Bm.row (Cm.enc0 x0 n0 r0 d0.data.toList)).toArray ++ a1)] w fun e w' => e = .returned (.tuple #[.agg #[.bool x0, .int .u32 n0, .bool r0, .string d0], .int .i64 ((Cm.enc0 x0 n0 r0 d0.data.toList).length : Nat), .int .i64 0]) ∧ Below w.heap.size w w') := fun w hT => by
    have h := cDec_any (ByteArray.mk (Bm.row (Cm.enc0 x0 n0 r0 d0.data.toList)).toArray ++ a1) w hT (by rw [ByteArray.size_append, hz]; omega)
    rw [read_cat, Cm.dec_enc i0] at h
    exact h
  have H2 : Hid (∀ w, Tab w → Calls Tryd.prog 16 #[.string (ByteArray.mk (Bm.row (Cm.ack0 x0 n0 r0 d0.data.toList)).toArray ++ a1)] w fun e w' => e = .returned (.tuple #[.agg #[.bool x0, .int .u32 n0, .bool r0, .string d0], .int .i64 ((Cm.enc0 x0 n0 r0 d0.data.toList).length : Nat), .int .i64 0]) ∧ Below w.heap.size w w') := fun w hT => by
    have h := cDec_any (ByteArray.mk (Bm.row (Cm.ack0 x0 n0 r0 d0.data.toList)).toArray ++ a1) w hT (by rw [ByteArray.size_append, hzA]; omega)
    rw [read_cat, Cm.dec_ack i0] at h
    exact h
  have hkl : a2 % (Cm.enc0 x0 n0 r0 d0.data.toList).length < (Cm.enc0 x0 n0 r0 d0.data.toList).length := Nat.mod_lt _ (by omega)
  have hk : ((a2 : Int) % ((Cm.enc0 x0 n0 r0 d0.data.toList).length : Int)) = ((a2 % (Cm.enc0 x0 n0 r0 d0.data.toList).length : Nat) : Int) := by simp
  have H3 : Hid (∀ w, Tab w → Calls Tryd.prog 16 #[.string ((ByteArray.mk (Bm.row (Cm.ack0 x0 n0 r0 d0.data.toList)).toArray).extract 0 (a2 % (Cm.enc0 x0 n0 r0 d0.data.toList).length))] w fun e w' => e = .returned (.tuple #[.agg #[.bool false, .int .u32 0, .bool false, .string ⟨#[]⟩], .int .i64 ((a2 % (Cm.enc0 x0 n0 r0 d0.data.toList).length : Nat) : Int), .int .i64 10]) ∧ Below w.heap.size w w') := fun w hT => by
    have h := cDec_any ((ByteArray.mk (Bm.row (Cm.ack0 x0 n0 r0 d0.data.toList)).toArray).extract 0 (a2 % (Cm.enc0 x0 n0 r0 d0.data.toList).length)) w hT (by simp; omega)
    rw [Fm.read_extract, read_mk] at h
    rw [show Fm.cut (Cm.ack0 x0 n0 r0 d0.data.toList) 0 (a2 % (Cm.enc0 x0 n0 r0 d0.data.toList).length - 0) = (Cm.ack0 x0 n0 r0 d0.data.toList).take (a2 % (Cm.enc0 x0 n0 r0 d0.data.toList).length) from rfl, Cm.dec_cut i0 _ hkl] at h
    exact h
  rw [← hz] at H1 H2 H3 hk hkl hne1 hne2
  rw [← hz] at hzA
  clear hl hz e0 e1 i0 hAE
  generalize ByteArray.mk (Bm.row (Cm.enc0 x0 n0 r0 d0.data.toList)).toArray = E at *
  generalize ByteArray.mk (Bm.row (Cm.ack0 x0 n0 r0 d0.data.toList)).toArray = A at *
  generalize a2 % E.size = k at *
  have hz0 : ((E.size : Int) == 0) = false := by
    rw [beq_eq_false_iff_ne]
    omega
  have hs1 := fun w => run_slice_string_h (P := Tryd.prog) w 9 A Tryd.underlying9 .i64 (k : Int) (by omega) (by omega)
  rw [Int.toNat_natCast] at hs1
  go_enter Tryd.func6, Tryd.ntmps6
  go_wp2_with (first | (go_at_call 9; refine (known4_any _ HT.out).mono ?_; rintro e w' ⟨rfl, hb'⟩; replace La : Hid (Lies _ _ _ _ _ _) := (by first | exact Lies.on La.out hb' | exact Lies.on (Lies.alloc La.out _) hb'); replace HT : Hid (Tab _) := (by first | exact HT.out.below hb' | exact (HT.out.alloc _).below hb'); replace hA : Hid (Below W.heap.size W _) := (by first | exact below_join hA.out hb' | exact below_join (hA.out.alloc hA.out.size _) hb'); (try clear La0 La1 La2 La3 LaL); have La0 := La.out.c0; have La1 := La.out.c1; have La2 := La.out.c2; have La3 := La.out.c3; have LaL := La.out.lt; clear hb') | (go_at_call 10; refine (few4_any _ _ _ _ _).mono ?_; rintro e w' ⟨rfl, hb'⟩; replace La : Hid (Lies _ _ _ _ _ _) := (by first | exact Lies.on La.out hb' | exact Lies.on (Lies.alloc La.out _) hb'); replace HT : Hid (Tab _) := (by first | exact HT.out.below hb' | exact (HT.out.alloc _).below hb'); replace hA : Hid (Below W.heap.size W _) := (by first | exact below_join hA.out hb' | exact below_join (hA.out.alloc hA.out.size _) hb'); (try clear La0 La1 La2 La3 LaL); have La0 := La.out.c0; have La1 := La.out.c1; have La2 := La.out.c2; have La3 := La.out.c3; have LaL := La.out.lt; clear hb') | (go_at_call 14; refine (HL.out _ HT.out).mono ?_; rintro e w' ⟨rfl, hb'⟩; replace La : Hid (Lies _ _ _ _ _ _) := (by first | exact Lies.on La.out hb' | exact Lies.on (Lies.alloc La.out _) hb'); replace HT : Hid (Tab _) := (by first | exact HT.out.below hb' | exact (HT.out.alloc _).below hb'); replace hA : Hid (Below W.heap.size W _) := (by first | exact below_join hA.out hb' | exact below_join (hA.out.alloc hA.out.size _) hb'); (try clear La0 La1 La2 La3 LaL); have La0 := La.out.c0; have La1 := La.out.c1; have La2 := La.out.c2; have La3 := La.out.c3; have LaL := La.out.lt; clear hb') | (go_at_call 13; refine (HC.out _ HT.out).mono ?_; rintro e w' ⟨rfl, hb'⟩; replace La : Hid (Lies _ _ _ _ _ _) := (by first | exact Lies.on La.out hb' | exact Lies.on (Lies.alloc La.out _) hb'); replace HT : Hid (Tab _) := (by first | exact HT.out.below hb' | exact (HT.out.alloc _).below hb'); replace hA : Hid (Below W.heap.size W _) := (by first | exact below_join hA.out hb' | exact below_join (hA.out.alloc hA.out.size _) hb'); (try clear La0 La1 La2 La3 LaL); have La0 := La.out.c0; have La1 := La.out.c1; have La2 := La.out.c2; have La3 := La.out.c3; have LaL := La.out.lt; clear hb') | (go_at_call 15; refine (HK.out _ HT.out).mono ?_; rintro e w' ⟨rfl, hb'⟩; replace La : Hid (Lies _ _ _ _ _ _) := (by first | exact Lies.on La.out hb' | exact Lies.on (Lies.alloc La.out _) hb'); replace HT : Hid (Tab _) := (by first | exact HT.out.below hb' | exact (HT.out.alloc _).below hb'); replace hA : Hid (Below W.heap.size W _) := (by first | exact below_join hA.out hb' | exact below_join (hA.out.alloc hA.out.size _) hb'); (try clear La0 La1 La2 La3 LaL); have La0 := La.out.c0; have La1 := La.out.c1; have La2 := La.out.c2; have La3 := La.out.c3; have LaL := La.out.lt; clear hb'))
  refine Lw.wp_region_quiet_below (by kernel_rfl) (by kernel_rfl) ?_
  repeat (first
    | go_big_quiet_skip
    | (go_big_quiet_want; go_big_quiet_op; go_big_quiet_on)
    | (go_big_quiet_want; go_big_quiet_op; apply Exists.intro; refine ⟨fun _ hb' => ?_, ?_⟩; (first
      | exact Lw.val_rfl _
      | (go_at_call 13; exact Lw.calls_below hb' (HC.out _ (HT.out.below hb')))
      | (go_at_call 15; exact Lw.calls_below hb' (HK.out _ (HT.out.below hb')))
      | (simp [go_sem, (Lies.on La.out hb').c0, (Lies.on La.out hb').c1, (Lies.on La.out hb').c2, (Lies.on La.out hb').c3]; rfl)); go_big_quiet_on))
  refine wpQuiet_nil ?_
  intro w3 hb3
  replace La : Hid (Lies _ _ _ _ _ _) := La.out.on hb3
  replace HT : Hid (Tab _) := HT.out.below hb3
  replace hA : Hid (Below W.heap.size W _) := below_join hA.out hb3
  clear hb3 HC HK HL
  clear La0 La1 La2 La3 LaL
  have La0 := La.out.c0
  have La1 := La.out.c1
  have La2 := La.out.c2
  have La3 := La.out.c3
  have LaL := La.out.lt
  go_wp2_with fail
  refine (H1.out _ HT.out).mono ?_
  rintro e w4 ⟨rfl, hb4⟩
  replace La : Hid (Lies _ _ _ _ _ _) := La.out.on hb4
  replace HT : Hid (Tab _) := HT.out.below hb4
  replace hA : Hid (Below W.heap.size W _) := below_join hA.out hb4
  clear hb4 H1
  clear La0 La1 La2 La3 LaL
  have La0 := La.out.c0
  have La1 := La.out.c1
  have La2 := La.out.c2
  have La3 := La.out.c3
  have LaL := La.out.lt
  go_wp2_with fail
  refine (H2.out _ (HT.out.alloc _)).mono ?_
  rintro e w5 ⟨rfl, hb5⟩
  have Lg : Hid (Lies _ _ _ _ _ _) := (Lies.new w4 x0 n0 r0 d0).on hb5
  replace La : Hid (Lies _ _ _ _ _ _) := (Lies.alloc La.out _).on hb5
  replace HT : Hid (Tab _) := (HT.out.alloc _).below hb5
  replace hA : Hid (Below W.heap.size W _) := below_join (hA.out.alloc hA.out.size _) hb5
  clear hb5 H2
  clear La0 La1 La2 La3 LaL
  have La0 := La.out.c0
  have La1 := La.out.c1
  have La2 := La.out.c2
  have La3 := La.out.c3
  have LaL := La.out.lt
  have Lg0 := Lg.out.c0
  have Lg1 := Lg.out.c1
  have Lg2 := Lg.out.c2
  have Lg3 := Lg.out.c3
  have LgL := Lg.out.lt
  go_wp2_with fail
  refine (H3.out _ (HT.out.alloc _)).mono ?_
  rintro e w6 ⟨rfl, hb6⟩
  have Lh : Hid (Lies _ _ _ _ _ _) := (Lies.new w5 x0 n0 r0 d0).on hb6
  replace La : Hid (Lies _ _ _ _ _ _) := (Lies.alloc La.out _).on hb6
  replace Lg : Hid (Lies _ _ _ _ _ _) := (Lies.alloc Lg.out _).on hb6
  replace hA : Hid (Below W.heap.size W _) := below_join (hA.out.alloc hA.out.size _) hb6
  clear hb6 H3
  clear La0 La1 La2 La3 LaL Lg0 Lg1 Lg2 Lg3 LgL
  have La0 := La.out.c0
  have La1 := La.out.c1
  have La2 := La.out.c2
  have La3 := La.out.c3
  have LaL := La.out.lt
  have Lg0 := Lg.out.c0
  have Lg1 := Lg.out.c1
  have Lg2 := Lg.out.c2
  have Lg3 := Lg.out.c3
  have LgL := Lg.out.lt
  have Lh0 := Lh.out.c0
  have Lh1 := Lh.out.c1
  have Lh2 := Lh.out.c2
  have Lh3 := Lh.out.c3
  have LhL := Lh.out.lt
  go_wp2
  all_goals
    go_ret
    exact ⟨rfl, hA.out.alloc hA.out.size _⟩
theorem walk (x0 : Bool) (n0 : Int) (r0 : Bool) (d0 : ByteArray) (w0 : (Lit.int .u32 n0).wf = true) (u0 : d0.size ≤ maxLen) (a1 : ByteArray) (w1 : a1.size ≤ maxLen) (a2 : Int) (w2 : (Lit.int .u8 a2).wf = true) (W : World) (hT : Tab W) :
    Calls Tryd.prog 6 #[.agg #[.bool x0, .int .u32 n0, .bool r0, .string d0], .string a1, .int .u8 a2] W fun e w' => e = .returned (.bool true) ∧ Below W.heap.size W w' := by
  obtain ⟨m0, rfl, h0⟩ := u32_nat w0
  obtain ⟨m2, rfl, h2⟩ := u8_nat w2
  exact walkN x0 m0 r0 d0 h0 a1 w1 m2 h2 W hT
theorem own : ownKnob Tryd.prog.godebug = none := by kernel_rfl
theorem contract (H : Type) (enc : TypeId × Value → H) (W : World) (base : Nat) (args : Array Value) (ds gs : List (DataW H)) (before : List MemPlace)
    (hval0 : ∀ (j : Nat) t v, Tryd.f6.params[j]? = some t → args[j]? = some v → Value.okWide Tryd.prog W .any base t v)
    (hW : DataW.Whole enc Tryd.prog Tryd.f6.params.toList Rows.codeBackSpec.vars false W args.toList ds gs before) (hL : laidMetH Tryd.prog Rows.codeBackRow.laid W) :
    Calls Tryd.prog 6 args W fun e W' => ∃ v, e = .returned v ∧ Rows.codeBackSpec.post enc Tryd.prog Tryd.f6 false true false false W args v W' := by
  have hval : ∀ (j : Nat) t v, Tryd.f6.params[j]? = some t → args[j]? = some v → Value.okWide Tryd.prog W .any base t v := hval0
  have hW' := hW
  obtain ⟨p, q, hA0, hV, rfl, hfz, hnd⟩ := hW
  have hA : DataW.TrodAll enc Tryd.prog W 0 (fun _ => true) true Tryd.f6.params.toList args.toList ds p := hA0
  rw [Tryd.params6] at hA hval
  obtain ⟨v0, vs0, d0, ds0, p0, q0, hargs, rfl, rfl, h0, rr0⟩ := trodAll_cons hA
  obtain ⟨v1, vs1, d1, ds1, p1, q1, rfl, rfl, rfl, h1, rr1⟩ := trodAll_cons rr0
  obtain ⟨v2, vs2, d2, ds2, p2, q2, rfl, rfl, rfl, h2, rr2⟩ := trodAll_cons rr1
  obtain ⟨rfl, rfl, rfl⟩ := trodAll_nil rr2
  obtain rfl : args = #[v0, v1, v2] := by cases args; simp_all
  obtain ⟨rfl, rfl⟩ := trodVars_none hV
  obtain ⟨e0, e1, e2, e3, y0, y1, y2, y3, n0, rfl, rfl, rfl, k0, k1, k2, k3⟩ := Joins.open_agg4 Tryd.underlying24 (by kernel_rfl) (by kernel_rfl) (hval 0 24 v0 rfl rfl) h0
  obtain ⟨x0, hx0, rfl⟩ := DataW.trod_bool Tryd.underlying4 k0
  obtain ⟨n0, hx1, rfl, w0⟩ := DataW.trod_int Tryd.underlying22 k1
  obtain ⟨r0, hx2, rfl⟩ := DataW.trod_bool Tryd.underlying4 k2
  obtain ⟨d0, hx3, rfl, u0⟩ := DataW.trod_string Tryd.underlying9 k3
  obtain rfl := List.singleton_inj.1 hx0
  obtain rfl := List.singleton_inj.1 hx1
  obtain rfl := List.singleton_inj.1 hx2
  obtain rfl := List.singleton_inj.1 hx3
  clear k0 k1 k2 k3 hx0 hx1 hx2 hx3
  obtain ⟨a1, rfl, rfl, rfl, w1⟩ := open_string Tryd.underlying9 (hval 1 9 v1 rfl rfl) h1
  obtain ⟨a2, rfl, rfl, rfl, w2⟩ := open_int Tryd.underlying5 (hval 2 5 v2 rfl rfl) h2
  clear hA0 hval0
  refine (walk x0 n0 r0 d0 w0 u0 a1 w1 a2 w2 W (tab_of_laid hL)).mono fun e W' ⟨he, bel⟩ => ?_
  subst he
  exact ⟨_, rfl, _, _, _, [], _, [], hW', trodAll_mk1 (shut_bool Tryd.underlying4 _), (trodAll_cons_mk (shut_frame w0 u0) (trodAll_cons_mk (shut_string Tryd.underlying9 w1) (trodAll_cons_mk (shut_int Tryd.underlying5 w2) trodAll_mk0))), rfl, bel.frame _, fun h => by cases h⟩
theorem laid_met (os : Os) : laidMet Tryd.prog Rows.codeBackRow.laid ((tabWorld os).forCall (fun _ _ => 0) ⟨#[], #[.agg #[.bool false, .int .u32 0, .bool false, .string ByteArray.empty], .string ByteArray.empty, .int .u8 0], []⟩).memory :=
  laidMet_of_run' 8 (by kernel_rfl) (by kernel_rfl)
theorem reads (os : Os) {H : Type} (enc : TypeId × Value → H) : ∃ places, DataW.whole enc Tryd.prog ((tabWorld os).forCall (fun _ _ => 0) ⟨#[], #[.agg #[.bool false, .int .u32 0, .bool false, .string ByteArray.empty], .string ByteArray.empty, .int .u8 0], []⟩).memory Tryd.f6.params.toList Rows.codeBackSpec.vars false #[Value.agg #[.bool false, .int .u32 0, .bool false, .string ByteArray.empty], .string ByteArray.empty, .int .u8 0].toList 8 = some ([.agg [.lit (.bool false), .lit (.int .u32 0), .lit (.bool false), .lit (.string [])], .lit (.string []), .lit (.int .u8 0)], [], places) :=
  ⟨[], by kernel_rfl⟩
set_option maxRecDepth 100000 in
theorem lifted (os : Os) (started : os.Started) (H : Type) (enc : TypeId × Value → H) (F : Stop.Interp) :
    ReturnsInHanded {} Tryd.checked os 6 .any ((OpenSpec.ofChange Rows.codeBackSpec).preRow enc Tryd.prog Tryd.f6 Rows.codeBackRow.domain false Rows.codeBackRow.laid) (((OpenSpec.ofChange Rows.codeBackSpec).at F).post enc Tryd.prog Tryd.f6 false true false false) := by
  obtain ⟨places, hx⟩ := reads os enc
  refine returnsInHanded_of_row (C := Tryd.checked) (s := OpenSpec.ofChange Rows.codeBackSpec) own started (by kernel_rfl) Tryd.func6
    (witness_row_at (enc := enc) (C := Tryd.checked) false (tabWorld os) #[.agg #[.bool false, .int .u32 0, .bool false, .string ByteArray.empty], .string ByteArray.empty, .int .u8 0] rfl (by kernel_rfl) (by kernel_rfl) (by kernel_rfl)
      (OpenSpec.preRow_of_cond 8 hx (by kernel_rfl) (fun k hk => by cases hk) (by kernel_rfl) (laid_met os))) ?_
  intro W base args ds gs before hval hW _ _ _ hL _ _
  exact contract H enc W base args ds gs before hval hW hL
theorem said : Rows.CodeBackSaid :=
  OpenClaim.holds_of_cond 6 Tryd.f6 rfl rfl rfl rfl rfl rfl rfl ⟨rfl, rfl, rfl, rfl, rfl⟩ rfl rfl rfl rfl rfl (by kernel_rfl) Tryd.func6 (by kernel_rfl)
    (of_decide_eq_true (by kernel_rfl)) (by unfold Func.isWrapper; first | (rw [if_pos (by decide +kernel)]; kernel_rfl) | (rw [if_neg (by decide +kernel)]; exact ⟨rfl, rfl⟩))
    (fun os started H enc _ F => by rw [OpenClaim.pre_eq_preRow]; exact lifted os started H enc F)
theorem plain (f : FuncId) (fn : Func) (hf : Tryd.pinned.checked.prog.funcNamed "ostinato/ostinatolaw4.CodeBack" = some f) (hfn : Tryd.pinned.checked.prog.funcs[f]? = some fn) :
    false = Tryd.pinned.checked.prog.looks [] ∧ ∀ (j : Nat) t, fn.params[j]? = some t → Tryd.pinned.checked.prog.wantsStandIn t = false := by
  obtain rfl : f = 6 := Option.some.inj ((show Tryd.prog.funcNamed "ostinato/ostinatolaw4.CodeBack" = some 6 by kernel_rfl).symm.trans hf) |>.symm
  obtain rfl : fn = Tryd.f6 := (Option.some.inj (Tryd.func6.symm.trans hfn)).symm
  refine ⟨by kernel_rfl, fun j t ht => ?_⟩
  rw [Tryd.params6] at ht
  have hm : t ∈ [24, 9, 5] := by simpa using Array.mem_of_getElem? ht
  have hall : ([24, 9, 5].all fun u => !Tryd.prog.wantsStandIn u) = true := by kernel_rfl
  exact (show Tryd.prog.wantsStandIn t = false by simpa using List.all_eq_true.1 hall t hm)
end Go.Proofs.YtaphdehhnnglgaaDoor.codeBack
namespace Go.Proofs.YtaphdehhnnglgaaDoor
/-- The statement. -/
theorem codeBack_holds : Rows.CodeBackCardSaid :=
  Claim7.holds_tied_plain_at .later [] _ _ _ _ codeBack.said (fun _ h => by cases h) (by kernel_rfl) (fun _ h => by cases h) codeBack_row_tie rfl ⟨rfl, rfl⟩ (by kernel_rfl) rfl codeBack.plain (by kernel_rfl)
#print axioms codeBack_holds
end Go.Proofs.YtaphdehhnnglgaaDoor
