/- The law's own 'known' and 'few' over package frame. -/
import Derived.Test.YtfnbkehabadpmabDoorGb
import Derived.Test.YtfnbkehabadpmabDoorGc
import Derived.Test.YtfnbkehabadpmabDoorGt
import Derived.Test.YtfnbkehabadpmabDoorGp
namespace Go.Proofs.YtfnbkehabadpmabDoor
open Go.RowKit
theorem few_any (x : Bool) (n : Int) (r : Bool) (d : ByteArray) (w : World) :
    Calls Tryd.prog 7 #[.agg #[.bool x, .int .u32 n, .bool r, .string d]] w fun e w' => e = .returned (.bool (decide ((d.size : Int) ≤ 20))) ∧ Below w.heap.size w w' := by
  go_enter Tryd.func7, Tryd.ntmps7
  go_wp2
  go_ret
  exact ⟨rfl, (Below.refl _ _).alloc (Nat.le_refl _) _⟩
theorem ret_tupF {v u : (Bool × Nat × Bool × List UInt8) × Nat × Nat} (h : v = u) : Ending.returned (pfv v) = .returned (pfv u) := by rw [h]
theorem k_body (w : World) (hT : Tab w) : Calls Tryd.prog 10 #[.agg #[.bool false, .int .u32 291, .bool false, .string ⟨#[10]⟩]] w fun e w' => e = .returned (.string ⟨#[48, 48, 48, 49, 48, 48, 49, 48, 48, 48, 49, 49, 48, 48, 48, 48, 48, 48, 49, 48, 48, 48, 48, 49, 48, 49, 48]⟩) ∧ Below w.heap.size w w' :=
  (fBody_any false 291 false ⟨#[10]⟩ w hT (by decide)).mono fun e w' ⟨he, hw⟩ => ⟨he.trans (ret_str (b := [48, 48, 48, 49, 48, 48, 49, 48, 48, 48, 49, 49, 48, 48, 48, 48, 48, 48, 49, 48, 48, 48, 48, 49, 48, 49, 48]) (by decide +kernel)), hw⟩
theorem k_parse (w : World) (hT : Tab w) : Calls Tryd.prog 11 #[.string ⟨#[48, 48, 48, 49, 48, 48, 49, 48, 48, 48, 49, 49, 48, 48, 48, 48, 48, 48, 49, 48, 48, 48, 48, 49, 48, 49, 48, 49, 49, 49]⟩] w fun e w' => e = .returned (.tuple #[.agg #[.bool false, .int .u32 291, .bool false, .string ⟨#[10]⟩], .int .i64 27, .int .i64 0]) ∧ Below w.heap.size w w' :=
  (fParse_any ⟨#[48, 48, 48, 49, 48, 48, 49, 48, 48, 48, 49, 49, 48, 48, 48, 48, 48, 48, 49, 48, 48, 48, 48, 49, 48, 49, 48, 49, 49, 49]⟩ w hT (by decide)).mono fun e w' ⟨he, hw⟩ => ⟨he.trans (ret_tupF (u := ((false, 291, false, [10]), 27, 0)) (by decide +kernel)), hw⟩
theorem k_short (w : World) (hT : Tab w) : Calls Tryd.prog 11 #[.string ⟨#[48]⟩] w fun e w' => e = .returned (.tuple #[.agg #[.bool false, .int .u32 0, .bool false, .string ⟨#[]⟩], .int .i64 0, .int .i64 10]) ∧ Below w.heap.size w w' :=
  (fParse_any ⟨#[48]⟩ w hT (by decide)).mono fun e w' ⟨he, hw⟩ => ⟨he.trans (ret_tupF (u := ((false, 0, false, []), 0, 10)) (by decide +kernel)), hw⟩
theorem k_form (w : World) (hT : Tab w) : Calls Tryd.prog 11 #[.string ⟨#[49]⟩] w fun e w' => e = .returned (.tuple #[.agg #[.bool false, .int .u32 0, .bool false, .string ⟨#[]⟩], .int .i64 0, .int .i64 12]) ∧ Below w.heap.size w w' :=
  (fParse_any ⟨#[49]⟩ w hT (by decide)).mono fun e w' ⟨he, hw⟩ => ⟨he.trans (ret_tupF (u := ((false, 0, false, []), 0, 12)) (by decide +kernel)), hw⟩
theorem k_is (w : World) (hT : Tab w) : Calls Tryd.prog 8 #[.agg #[.bool false, .int .u32 291, .bool false, .string ⟨#[10]⟩]] w fun e w' => e = .returned (.bool true) ∧ Below w.heap.size w w' :=
  (fIs_any false 291 false ⟨#[10]⟩ w hT).mono fun e w' ⟨he, hw⟩ => ⟨he.trans (ret_bool (by decide +kernel)), hw⟩
theorem k_isnot (w : World) (hT : Tab w) : Calls Tryd.prog 8 #[.agg #[.bool false, .int .u32 2048, .bool false, .string ⟨#[]⟩]] w fun e w' => e = .returned (.bool false) ∧ Below w.heap.size w w' :=
  (fIs_any false 2048 false ⟨#[]⟩ w hT).mono fun e w' ⟨he, hw⟩ => ⟨he.trans (ret_bool (by decide +kernel)), hw⟩
theorem k_cmp (w : World) (hT : Tab w) : Calls Tryd.prog 6 #[.agg #[.bool false, .int .u32 291, .bool false, .string ⟨#[10]⟩], .agg #[.bool false, .int .u32 292, .bool false, .string ⟨#[]⟩]] w fun e w' => e = .returned (.int .i64 (-1)) ∧ Below w.heap.size w w' :=
  (fCmp_any false 291 false ⟨#[10]⟩ false 292 false ⟨#[]⟩ w hT (by decide) (by decide)).mono fun e w' ⟨he, hw⟩ => ⟨he.trans (ret_int (by decide +kernel)), hw⟩
theorem k_text (w : World) (hT : Tab w) : Calls Tryd.prog 9 #[.agg #[.bool false, .int .u32 291, .bool false, .string ⟨#[10]⟩]] w fun e w' => e = .returned (.string ⟨#[49, 50, 51, 35, 48, 65]⟩) ∧ Below w.heap.size w w' :=
  (fText_any false 291 false ⟨#[10]⟩ w hT (by decide)).mono fun e w' ⟨he, hw⟩ => ⟨he.trans (ret_str (b := [49, 50, 51, 35, 48, 65]) (by decide +kernel)), hw⟩
theorem k_arb (w : World) (hT : Tab w) : Calls Tryd.prog 12 #[.agg #[.bool false, .int .u32 291, .bool false, .string ⟨#[10]⟩]] w fun e w' => e = .returned (.string ⟨#[48, 48, 48, 49, 48, 48, 49, 48, 48, 48, 49, 49, 48, 48]⟩) ∧ Below w.heap.size w w' :=
  (fArb_any false 291 false ⟨#[10]⟩ w hT (by decide)).mono fun e w' ⟨he, hw⟩ => ⟨he.trans (ret_str (b := [48, 48, 48, 49, 48, 48, 49, 48, 48, 48, 49, 49, 48, 48]) (by decide +kernel)), hw⟩
set_option maxRecDepth 100000 in
set_option maxHeartbeats 4000000 in
theorem known3_any (w : World) (hT : Tab w) : Calls Tryd.prog 5 #[] w fun e w' => e = .returned (.bool true) ∧ Below w.heap.size w w' := by
  have hcat : (ByteArray.mk #[48, 48, 48, 49, 48, 48, 49, 48, 48, 48, 49, 49, 48, 48, 48, 48, 48, 48, 49, 48, 48, 48, 48, 49, 48, 49, 48]) ++ (ByteArray.mk #[49, 49, 49]) = ByteArray.mk #[48, 48, 48, 49, 48, 48, 49, 48, 48, 48, 49, 49, 48, 48, 48, 48, 48, 48, 49, 48, 48, 48, 48, 49, 48, 49, 48, 49, 49, 49] := by decide +kernel
  have HT1 : Hid (Tab _) := hT.alloc (.cells #[.bool false, .int .u32 291, .bool false, .string ⟨#[10]⟩] 25)
  clear hT
  go_enter Tryd.func5, Tryd.ntmps5
  go_wp2_with fail
  refine (k_body _ HT1.out).mono ?_
  rintro e w1 ⟨rfl, hb1⟩
  have HF1 : Hid (w1.heap[w.heap.size]? = some (.cells #[.bool false, .int .u32 291, .bool false, .string ⟨#[10]⟩] 25 (0, 0))) := block_on (by simp) hb1 (heap_alloc_new _ _)
  have HT2 : Hid (Tab w1) := HT1.out.below hb1
  have hA1 : Hid (Below w.heap.size w w1) := below_join ((Below.refl _ _).alloc (Nat.le_refl _) _) hb1
  clear hb1 HT1
  go_wp2_with fail
  refine (k_parse _ HT2.out).mono ?_
  rintro e w2 ⟨rfl, hb2⟩
  have hz1 : w.heap.size < w1.heap.size := (Array.getElem?_eq_some_iff.1 HF1.out).1
  have HF2 : Hid (_) := block_on hz1 hb2 HF1.out
  have HT3 : Hid (Tab w2) := HT2.out.below hb2
  have hA2 : Hid (Below w.heap.size w w2) := below_join hA1.out hb2
  have hz2 : w.heap.size < w2.heap.size := (Array.getElem?_eq_some_iff.1 HF2.out).1
  clear hb2 HT2 hA1 HF1 hz1 hcat
  go_wp2_with fail
  refine (k_short _ (HT3.out.alloc _)).mono ?_
  rintro e w3 ⟨rfl, hb3⟩
  have HF3 : Hid (_) := block_on (by simp; omega) hb3 ((Below.heap_alloc w2 _ _ hz2).trans HF2.out)
  have HG3 : Hid (w3.heap[w2.heap.size]? = some (.cells #[.bool false, .int .u32 291, .bool false, .string ⟨#[10]⟩] 25 (0, 0))) := block_on (by simp) hb3 (heap_alloc_new _ _)
  have HT4 : Hid (Tab w3) := (HT3.out.alloc _).below hb3
  have hA3 : Hid (Below w.heap.size w w3) := below_join (hA2.out.alloc hA2.out.size _) hb3
  have hz3 : w2.heap.size < w3.heap.size := (Array.getElem?_eq_some_iff.1 HG3.out).1
  clear hb3 HT3 hA2 HF2
  go_wp2_with fail
  refine (k_form _ (HT4.out.alloc _)).mono ?_
  rintro e w4 ⟨rfl, hb4⟩
  have HF4 : Hid (_) := block_on (by simp; omega) hb4 ((Below.heap_alloc w3 _ _ (by omega)).trans HF3.out)
  have HG4 : Hid (_) := block_on (by simp; omega) hb4 ((Below.heap_alloc w3 _ _ hz3).trans HG3.out)
  have HT5 : Hid (Tab w4) := (HT4.out.alloc _).below hb4
  have hA4 : Hid (Below w.heap.size w w4) := below_join (hA3.out.alloc hA3.out.size _) hb4
  have hz4 : w2.heap.size < w4.heap.size := (Array.getElem?_eq_some_iff.1 HG4.out).1
  have hz4' : w.heap.size < w4.heap.size := by omega
  clear hb4 HT4 hA3 HF3 HG3 hz3
  obtain ⟨x0, x1, x2, x3, _, _, _, _⟩ := four_cells HF4.out
  go_wp2_with fail
  refine (k_is _ (HT5.out.alloc _)).mono ?_
  rintro e w5 ⟨rfl, hb5⟩
  have HF5 : Hid (_) := block_on (by simp; omega) hb5 ((Below.heap_alloc w4 _ _ hz4').trans HF4.out)
  have HG5 : Hid (_) := block_on (by simp; omega) hb5 ((Below.heap_alloc w4 _ _ hz4).trans HG4.out)
  have HT6 : Hid (Tab w5) := (HT5.out.alloc _).below hb5
  have hA5 : Hid (Below w.heap.size w w5) := below_join (hA4.out.alloc hA4.out.size _) hb5
  clear hb5 HT5 hA4 HF4 HG4 hz4 hz4' x0 x1 x2 x3
  go_wp2_with fail
  refine (k_isnot _ HT6.out).mono ?_
  rintro e w6 ⟨rfl, hb6⟩
  have HF6 : Hid (_) := block_on (Array.getElem?_eq_some_iff.1 HF5.out).1 hb6 HF5.out
  have HG6 : Hid (_) := block_on (Array.getElem?_eq_some_iff.1 HG5.out).1 hb6 HG5.out
  have HT7 : Hid (Tab w6) := HT6.out.below hb6
  have hA6 : Hid (Below w.heap.size w w6) := below_join hA5.out hb6
  clear hb6 HT6 hA5 HF5 HG5
  obtain ⟨x0, x1, x2, x3, _, _, _, _⟩ := four_cells HF6.out
  obtain ⟨y0, y1, y2, y3, _, _, _, _⟩ := four_cells HG6.out
  go_wp2_with fail
  refine (k_cmp _ HT7.out).mono ?_
  rintro e w7 ⟨rfl, hb7⟩
  have HF7 : Hid (_) := block_on (Array.getElem?_eq_some_iff.1 HF6.out).1 hb7 HF6.out
  have HT8 : Hid (Tab w7) := HT7.out.below hb7
  have hA7 : Hid (Below w.heap.size w w7) := below_join hA6.out hb7
  clear hb7 HT7 hA6 HF6 HG6 x0 x1 x2 x3 y0 y1 y2 y3
  obtain ⟨x0, x1, x2, x3, _, _, _, _⟩ := four_cells HF7.out
  go_wp2_with fail
  refine (k_text _ HT8.out).mono ?_
  rintro e w8 ⟨rfl, hb8⟩
  have HF8 : Hid (_) := block_on (Array.getElem?_eq_some_iff.1 HF7.out).1 hb8 HF7.out
  have HT9 : Hid (Tab w8) := HT8.out.below hb8
  have hA8 : Hid (Below w.heap.size w w8) := below_join hA7.out hb8
  clear hb8 HT8 hA7 HF7 x0 x1 x2 x3
  obtain ⟨x0, x1, x2, x3, _, _, _, _⟩ := four_cells HF8.out
  go_wp2_with fail
  refine (k_arb _ HT9.out).mono ?_
  rintro e w9 ⟨rfl, hb9⟩
  have hA9 : Below w.heap.size w w9 := below_join hA8.out hb9
  clear hb9 HT9 hA8 HF8 x0 x1 x2 x3
  go_wp2
  go_ret
  exact ⟨rfl, hA9⟩
end Go.Proofs.YtfnbkehabadpmabDoor
