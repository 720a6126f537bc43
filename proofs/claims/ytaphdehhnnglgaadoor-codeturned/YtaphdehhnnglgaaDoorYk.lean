/- The law's own 'known' and 'few' over package code. -/
import Derived.Test.YtaphdehhnnglgaaDoorZ6
import Derived.Test.YtaphdehhnnglgaaDoorGi
namespace Go.Proofs.YtaphdehhnnglgaaDoor
open Go.RowKit
theorem few4_any (x : Bool) (n : Int) (r : Bool) (d : ByteArray) (w : World) :
    Calls Tryd.prog 10 #[.agg #[.bool x, .int .u32 n, .bool r, .string d]] w fun e w' => e = .returned (.bool (decide ((d.size : Int) ≤ 20))) ∧ Below w.heap.size w w' := by
  go_enter Tryd.func10, Tryd.ntmps10
  go_wp2
  go_ret
  exact ⟨rfl, (Below.refl _ _).alloc (Nat.le_refl _) _⟩
def k4E : ByteArray := ⟨#[48, 49, 48, 49, 48, 49, 48, 49, 48, 49, 48, 49, 48, 48, 48, 48, 48, 49, 48, 48, 49, 49, 48, 48, 49, 49, 49, 48, 49, 48, 48, 49, 49, 48, 48, 49, 49, 49, 49, 49, 49, 49, 49, 49, 49]⟩
def k4A : ByteArray := ⟨#[48, 49, 48, 49, 48, 49, 48, 49, 48, 49, 48, 49, 48, 48, 48, 48, 48, 49, 48, 48, 49, 49, 48, 48, 49, 49, 49, 48, 49, 48, 48, 49, 49, 48, 48, 49, 48, 49, 49, 49, 49, 49, 49, 49, 49]⟩
theorem k4_enc (w : World) (hT : Tab w) : Calls Tryd.prog 13 #[.agg #[.bool false, .int .u32 1365, .bool false, .string ⟨#[]⟩]] w fun e w' => e = .returned (.string k4E) ∧ Below w.heap.size w w' :=
  (cEnc_any false 1365 false ⟨#[]⟩ w hT (by decide)).mono fun e w' ⟨he, hw⟩ => ⟨he.trans (ret_str (b := k4E.data.toList) (by decide +kernel)), hw⟩
theorem k4_ack (w : World) (hT : Tab w) : Calls Tryd.prog 15 #[.agg #[.bool false, .int .u32 1365, .bool false, .string ⟨#[]⟩]] w fun e w' => e = .returned (.string k4A) ∧ Below w.heap.size w w' :=
  (cAck_any false 1365 false ⟨#[]⟩ w hT (by decide)).mono fun e w' ⟨he, hw⟩ => ⟨he.trans (ret_str (b := k4A.data.toList) (by decide +kernel)), hw⟩
theorem k4_len (w : World) (hT : Tab w) : Calls Tryd.prog 14 #[.agg #[.bool false, .int .u32 1365, .bool false, .string ⟨#[]⟩]] w fun e w' => e = .returned (.int .i64 45) ∧ Below w.heap.size w w' :=
  (cLen_any false 1365 false ⟨#[]⟩ w hT (by decide)).mono fun e w' ⟨he, hw⟩ => ⟨he.trans (ret_int (by decide +kernel)), hw⟩
theorem k4_d1 (w : World) (hT : Tab w) : Calls Tryd.prog 16 #[.string (k4E ++ ByteArray.mk #[48])] w fun e w' => e = .returned (.tuple #[.agg #[.bool false, .int .u32 1365, .bool false, .string ⟨#[]⟩], .int .i64 45, .int .i64 0]) ∧ Below w.heap.size w w' :=
  (cDec_any (k4E ++ ByteArray.mk #[48]) w hT (by decide +kernel)).mono fun e w' ⟨he, hw⟩ => ⟨he.trans (ret_cfv (u := ((false, 1365, false, []), 45, 0)) (by decide +kernel)), hw⟩
theorem k4_d2 (w : World) (hT : Tab w) : Calls Tryd.prog 16 #[.string (k4A)] w fun e w' => e = .returned (.tuple #[.agg #[.bool false, .int .u32 1365, .bool false, .string ⟨#[]⟩], .int .i64 45, .int .i64 0]) ∧ Below w.heap.size w w' :=
  (cDec_any (k4A) w hT (by decide +kernel)).mono fun e w' ⟨he, hw⟩ => ⟨he.trans (ret_cfv (u := ((false, 1365, false, []), 45, 0)) (by decide +kernel)), hw⟩
theorem k4_d3 (w : World) (hT : Tab w) : Calls Tryd.prog 16 #[.string (ByteArray.mk #[48, 48, 48, 48, 48, 48])] w fun e w' => e = .returned (.tuple #[.agg #[.bool false, .int .u32 0, .bool false, .string ⟨#[]⟩], .int .i64 5, .int .i64 20]) ∧ Below w.heap.size w w' :=
  (cDec_any (ByteArray.mk #[48, 48, 48, 48, 48, 48]) w hT (by decide +kernel)).mono fun e w' ⟨he, hw⟩ => ⟨he.trans (ret_cfv (u := ((false, 0, false, []), 5, 20)) (by decide +kernel)), hw⟩
theorem k4_d4 (w : World) (hT : Tab w) : Calls Tryd.prog 16 #[.string (k4E.extract 0 20)] w fun e w' => e = .returned (.tuple #[.agg #[.bool false, .int .u32 0, .bool false, .string ⟨#[]⟩], .int .i64 20, .int .i64 10]) ∧ Below w.heap.size w w' :=
  (cDec_any (k4E.extract 0 20) w hT (by decide +kernel)).mono fun e w' ⟨he, hw⟩ => ⟨he.trans (ret_cfv (u := ((false, 0, false, []), 20, 10)) (by decide +kernel)), hw⟩
set_option maxRecDepth 100000 in
set_option maxHeartbeats 4000000 in
theorem known4_any (W : World) (hT : Tab W) : Calls Tryd.prog 9 #[] W fun e w' => e = .returned (.bool true) ∧ Below W.heap.size W w' := by
  have HE : Hid (_) := k4_enc
  have HK : Hid (_) := k4_ack
  have HL : Hid (_) := k4_len
  have H1 : Hid (_) := k4_d1
  have H2 : Hid (_) := k4_d2
  have H3 : Hid (_) := k4_d3
  have H4 : Hid (_) := k4_d4
  have hsz : k4E.size = 45 := by decide +kernel
  have hend : k4E.extract 35 45 = ByteArray.mk #[49, 49, 49, 49, 49, 49, 49, 49, 49, 49] := by decide +kernel
  generalize k4E = E at *
  generalize k4A = A at *
  have hs1 := fun w => run_slice_string_h (P := Tryd.prog) w 9 E Tryd.underlying9 .i64 (20 : Int) (by decide) (by omega)
  have hs2 := fun w => run_slice_string_l (P := Tryd.prog) w 9 E Tryd.underlying9 .i64 (35 : Int) (by decide) (by omega)
  have HT : Hid (Tab _) := hT.alloc (.cells #[.bool false, .int .u32 1365, .bool false, .string ⟨#[]⟩] 24)
  have hA : Hid (Below W.heap.size W _) := (Below.refl _ _).alloc (Nat.le_refl _) (.cells #[.bool false, .int .u32 1365, .bool false, .string ⟨#[]⟩] 24)
  have La : Hid (Lies _ _ _ _ _ _) := Lies.new W false 1365 false ⟨#[]⟩
  clear hT
  go_enter Tryd.func9, Tryd.ntmps9
  go_wp2_with (first | (go_at_call 13; refine (HE.out _ HT.out).mono ?_; rintro e w' ⟨rfl, hb'⟩; replace La : Hid (Lies _ _ _ _ _ _) := (by first | exact Lies.on La.out hb' | exact Lies.on (Lies.alloc La.out _) hb'); replace HT : Hid (Tab _) := (by first | exact HT.out.below hb' | exact (HT.out.alloc _).below hb'); replace hA : Hid (Below W.heap.size W _) := (by first | exact below_join hA.out hb' | exact below_join (hA.out.alloc hA.out.size _) hb'); (try clear La0 La1 La2 La3 LaL); have La0 := La.out.c0; have La1 := La.out.c1; have La2 := La.out.c2; have La3 := La.out.c3; have LaL := La.out.lt; clear hb'))
  refine (H1.out _ HT.out).mono ?_
  rintro e w2 ⟨rfl, hb2⟩
  replace La : Hid (Lies _ _ _ _ _ _) := La.out.on hb2
  replace HT : Hid (Tab _) := HT.out.below hb2
  replace hA : Hid (Below W.heap.size W _) := below_join hA.out hb2
  clear hb2 La0 La1 La2 La3 LaL
  have La0 := La.out.c0
  have La1 := La.out.c1
  have La2 := La.out.c2
  have La3 := La.out.c3
  have LaL := La.out.lt
  clear HE H1
  go_wp2_with fail
  refine (HK.out _ (HT.out.alloc _)).mono ?_
  rintro e w3 ⟨rfl, hb3⟩
  have Lg : Hid (Lies _ _ _ _ _ _) := (Lies.new w2 false 1365 false ⟨#[]⟩).on hb3
  replace La : Hid (Lies _ _ _ _ _ _) := (Lies.alloc La.out _).on hb3
  replace HT : Hid (Tab _) := (HT.out.alloc _).below hb3
  replace hA : Hid (Below W.heap.size W _) := below_join (hA.out.alloc hA.out.size _) hb3
  clear hb3 La0 La1 La2 La3 LaL
  have La0 := La.out.c0
  have La1 := La.out.c1
  have La2 := La.out.c2
  have La3 := La.out.c3
  have LaL := La.out.lt
  have Lg0 := Lg.out.c0
  have Lg1 := Lg.out.c1
  have Lg2 := Lg.out.c2
  have Lg3 := Lg.out.c3
  have LgL := Lg.out.lt
  clear HK
  go_wp2_with fail
  refine (H2.out _ HT.out).mono ?_
  rintro e w4 ⟨rfl, hb4⟩
  replace La : Hid (Lies _ _ _ _ _ _) := La.out.on hb4
  replace Lg : Hid (Lies _ _ _ _ _ _) := Lg.out.on hb4
  replace HT : Hid (Tab _) := HT.out.below hb4
  replace hA : Hid (Below W.heap.size W _) := below_join hA.out hb4
  clear hb4 La0 La1 La2 La3 LaL Lg0 Lg1 Lg2 Lg3 LgL
  have La0 := La.out.c0
  have La1 := La.out.c1
  have La2 := La.out.c2
  have La3 := La.out.c3
  have LaL := La.out.lt
  have Lg0 := Lg.out.c0
  have Lg1 := Lg.out.c1
  have Lg2 := Lg.out.c2
  have Lg3 := Lg.out.c3
  have LgL := Lg.out.lt
  clear H2
  go_wp2_with fail
  refine (H3.out _ (HT.out.alloc _)).mono ?_
  rintro e w5 ⟨rfl, hb5⟩
  have Lh : Hid (Lies _ _ _ _ _ _) := (Lies.new w4 false 1365 false ⟨#[]⟩).on hb5
  replace La : Hid (Lies _ _ _ _ _ _) := (Lies.alloc La.out _).on hb5
  replace Lg : Hid (Lies _ _ _ _ _ _) := (Lies.alloc Lg.out _).on hb5
  replace HT : Hid (Tab _) := (HT.out.alloc _).below hb5
  replace hA : Hid (Below W.heap.size W _) := below_join (hA.out.alloc hA.out.size _) hb5
  clear hb5 La0 La1 La2 La3 LaL Lg0 Lg1 Lg2 Lg3 LgL
  have La0 := La.out.c0
  have La1 := La.out.c1
  have La2 := La.out.c2
  have La3 := La.out.c3
  have LaL := La.out.lt
  have Lg0 := Lg.out.c0
  have Lg1 := Lg.out.c1
  have Lg2 := Lg.out.c2
  have Lg3 := Lg.out.c3
  have LgL := Lg.out.lt
  have Lh0 := Lh.out.c0
  have Lh1 := Lh.out.c1
  have Lh2 := Lh.out.c2
  have Lh3 := Lh.out.c3
  have LhL := Lh.out.lt
  clear H3
  go_wp2_with fail
  refine (H4.out _ (HT.out.alloc _)).mono ?_
  rintro e w6 ⟨rfl, hb6⟩
  replace La : Hid (Lies _ _ _ _ _ _) := (Lies.alloc La.out _).on hb6
  replace Lg : Hid (Lies _ _ _ _ _ _) := (Lies.alloc Lg.out _).on hb6
  replace Lh : Hid (Lies _ _ _ _ _ _) := (Lies.alloc Lh.out _).on hb6
  replace HT : Hid (Tab _) := (HT.out.alloc _).below hb6
  replace hA : Hid (Below W.heap.size W _) := below_join (hA.out.alloc hA.out.size _) hb6
  clear hb6 La0 La1 La2 La3 LaL Lg0 Lg1 Lg2 Lg3 LgL Lh0 Lh1 Lh2 Lh3 LhL
  have La0 := La.out.c0
  have La1 := La.out.c1
  have La2 := La.out.c2
  have La3 := La.out.c3
  have LaL := La.out.lt
  have Lg0 := Lg.out.c0
  have Lg1 := Lg.out.c1
  have Lg2 := Lg.out.c2
  have Lg3 := Lg.out.c3
  have LgL := Lg.out.lt
  have Lh0 := Lh.out.c0
  have Lh1 := Lh.out.c1
  have Lh2 := Lh.out.c2
  have Lh3 := Lh.out.c3
  have LhL := Lh.out.lt
  clear H4
  go_wp2_with fail
  refine (HL.out _ (HT.out.alloc _)).mono ?_
  rintro e w7 ⟨rfl, hb7⟩
  have hB : Below W.heap.size W w7 := below_join (hA.out.alloc hA.out.size _) hb7
  clear hb7 HL HT hA La Lg Lh La0 La1 La2 La3 LaL Lg0 Lg1 Lg2 Lg3 LgL Lh0 Lh1 Lh2 Lh3 LhL
  go_wp2
  all_goals
    go_ret
    exact ⟨rfl, hB⟩
end Go.Proofs.YtaphdehhnnglgaaDoor
