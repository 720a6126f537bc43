/- What Cmp of package frame answers, over the program's own text. -/
import Derived.Test.YtoinkaakiohclaaDoorU6
namespace Go.Proofs.YtoinkaakiohclaaDoor
open Go.RowKit
set_option maxHeartbeats 400000 in
theorem claim_any (x : Bool) (n : Nat) (r : Bool) (d : ByteArray) (w : World) :
    Calls Tryd.prog 28 #[.agg #[.bool x, .int .u32 n, .bool r, .string d]] w fun e w' => e = .returned (.agg #[.bool x, .int .u32 n, .bool r, .string ⟨#[]⟩]) ∧ Below w.heap.size w w' := by
  go_enter Tryd.func28, Tryd.ntmps28
  go_wp2
  exact bodyPost_ret (v := .agg #[.bool x, .int .u32 n, .bool r, .string ⟨#[]⟩]) (by simp [results, Tryd.results28, go_sem]) rfl
    ⟨rfl, ((Below.refl _ _).alloc (Nat.le_refl _) _).alloc (by simp) _⟩
theorem two_cell {w w1 : World} {B : Nat} {a b c d a' b' c' d' : Value} {t : TypeId} (hb : Below B ((w.alloc (.cells #[a, b, c, d] t)).alloc (.cells #[a', b', c', d'] t)) w1) (hB : B = w.heap.size + 1 + 1) :
    (∀ (k : Nat) (v : Value), #[a, b, c, d][k]? = some v → w1.cell? ⟨w.heap.size, k, none⟩ = some v) ∧ (∀ (k : Nat) (v : Value), #[a', b', c', d'][k]? = some v → w1.cell? ⟨w.heap.size + 1, k, none⟩ = some v) := by
  subst hB
  exact ⟨fun k v hv => (hb.cell (p := ⟨w.heap.size, k, none⟩) (by simp; omega)).trans (by rw [cell_of_row _ _ _ _ _ _ (heap_alloc2_old _ _ _)]; exact hv),
    fun k v hv => (hb.cell (p := ⟨w.heap.size + 1, k, none⟩) (by simp)).trans (by rw [cell_of_row _ _ _ _ _ _ (heap_alloc2_new _ _ _)]; exact hv)⟩
theorem ite3 {α : Type} {x y r s : Bool} {n m : Nat} {A B : α} (h : ¬ (x = y ∧ n = m ∧ r = s)) : (if x = y then (if (n : Int) = (m : Int) then (if r = s then A else B) else B) else B) = B := by
  split
  · split
    · split
      · rename_i h1 h2 h3
        exact absurd ⟨h1, by omega, h3⟩ h
      · rfl
    · rfl
  · rfl
theorem less_cmp (X : List Bool) : ∀ Y, Fm.cmpB X Y ≠ 0 → (Op.bytesLess (Bm.row X) (Bm.row Y) = true → Fm.cmpB X Y = -1) ∧ (Op.bytesLess (Bm.row X) (Bm.row Y) = false → Fm.cmpB X Y = 1) := by
  induction X with
  | nil => intro Y h; exact absurd rfl h
  | cons a s ih =>
    intro Y h
    cases Y with
    | nil => exact absurd rfl h
    | cons b t =>
      cases a <;> cases b
      · exact ih t h
      · exact ⟨fun _ => rfl, fun h2 => by cases h2⟩
      · exact ⟨fun h2 => (by cases h2), fun _ => rfl⟩
      · exact ih t h
theorem arb_ne {x : Bool} {n : Nat} {r : Bool} {d : List UInt8} {y : Bool} {m : Nat} {s : Bool} {g : List UInt8} (ha : Fm.isF x n r d = true) (hb : Fm.isF y m s g = true) (hne : ¬ (x = y ∧ n = m ∧ r = s)) : Fm.cmpB (Fm.arb x n r d) (Fm.arb y m s g) ≠ 0 := by
  unfold Fm.arb
  rw [if_pos ha, if_pos hb, Fm.cmp_key x y n m r s (Fm.isF_parts ha).1 (Fm.isF_parts hb).1]
  intro h
  unfold Fm.sgn at h
  apply hne
  apply Fm.key_inj x y n m r s (Fm.isF_parts ha).1 (Fm.isF_parts hb).1
  split at h
  · omega
  · split at h
    · omega
    · omega
set_option maxRecDepth 100000 in
set_option maxHeartbeats 1000000 in
theorem fCmp_diff (x : Bool) (n : Nat) (r : Bool) (d : ByteArray) (y : Bool) (m : Nat) (s : Bool) (g : ByteArray) (w : World) (hT : Tab w) (hn : n < 4294967296) (hm : m < 4294967296)
    (ha : Fm.isF x n r d.data.toList = true) (hb : Fm.isF y m s g.data.toList = true) (hne : ¬ (x = y ∧ n = m ∧ r = s)) :
    Calls Tryd.prog 17 #[.agg #[.bool x, .int .u32 n, .bool r, .string d], .agg #[.bool y, .int .u32 m, .bool s, .string g]] w fun e w' => e = .returned (.int .i64 (Fm.cmpB (Fm.arb x n r d.data.toList) (Fm.arb y m s g.data.toList))) ∧ Below w.heap.size w w' := by
  have HI : Hid (∀ w, Tab w → Calls Tryd.prog 27 #[.agg #[.bool x, .int .u32 n, .bool r, .string d]] w fun e w' => e = .returned (.bool true) ∧ Below w.heap.size w w') := fun w hT => ha ▸ fIs_any x n r d w hT
  have HJ : Hid (∀ w, Tab w → Calls Tryd.prog 27 #[.agg #[.bool y, .int .u32 m, .bool s, .string g]] w fun e w' => e = .returned (.bool true) ∧ Below w.heap.size w w') := fun w hT => hb ▸ fIs_any y m s g w hT
  have HA : Hid (∀ w, Tab w → Calls Tryd.prog 29 #[.agg #[.bool x, .int .u32 n, .bool r, .string d]] w fun e w' => e = .returned (.string ⟨(Bm.row (Fm.arb x n r d.data.toList)).toArray⟩) ∧ Below w.heap.size w w') := fun w hT => fArb_any x n r d w hT hn
  have HB : Hid (∀ w, Tab w → Calls Tryd.prog 29 #[.agg #[.bool y, .int .u32 m, .bool s, .string g]] w fun e w' => e = .returned (.string ⟨(Bm.row (Fm.arb y m s g.data.toList)).toArray⟩) ∧ Below w.heap.size w w') := fun w hT => fArb_any y m s g w hT hm
  have HC : Hid (∀ w, Calls Tryd.prog 28 #[.agg #[.bool x, .int .u32 n, .bool r, .string d]] w fun e w' => e = .returned (.agg #[.bool x, .int .u32 n, .bool r, .string ⟨#[]⟩]) ∧ Below w.heap.size w w') := fun w => claim_any x n r d w
  have HD : Hid (∀ w, Calls Tryd.prog 28 #[.agg #[.bool y, .int .u32 m, .bool s, .string g]] w fun e w' => e = .returned (.agg #[.bool y, .int .u32 m, .bool s, .string ⟨#[]⟩]) ∧ Below w.heap.size w w') := fun w => claim_any y m s g w
  have HLess : Hid (_) := less_cmp (Fm.arb x n r d.data.toList) (Fm.arb y m s g.data.toList) (arb_ne ha hb hne)
  have hT1 := (hT.alloc (.cells #[.bool x, .int .u32 n, .bool r, .string d] 30)).alloc (.cells #[.bool y, .int .u32 m, .bool s, .string g] 30)
  go_enter Tryd.func17, Tryd.ntmps17
  have HT1 : Hid (Tab _) := hT1
  clear hT hT1
  have HN : Hid (_) := hne
  clear hne
  go_wp2_with fail
  refine Lw.wp_region_quiet_below (by kernel_rfl) (by kernel_rfl) ?_
  repeat (first
    | go_big_quiet_skip
    | (go_big_quiet_want; go_big_quiet_op; go_big_quiet_on)
    | (go_big_quiet_want; go_big_quiet_op; apply Exists.intro; refine ⟨fun _ hb' => ?_, ?_⟩; (first
      | exact Lw.val_rfl _
      | (go_at_call_of 27 (Value.agg #[.bool x, .int .u32 (n : Int), .bool r, .string d]); exact Lw.calls_belowB (by simp) hb' (HI.out _ (HT1.out.belowB (by simp) hb')))
      | (go_at_call_of 27 (Value.agg #[.bool y, .int .u32 (m : Int), .bool s, .string g]); exact Lw.calls_belowB (by simp) hb' (HJ.out _ (HT1.out.belowB (by simp) hb')))
      | (go_at_call_of 28 (Value.agg #[.bool x, .int .u32 (n : Int), .bool r, .string d]); exact Lw.calls_belowB (by simp) hb' (HC.out _))
      | (go_at_call_of 28 (Value.agg #[.bool y, .int .u32 (m : Int), .bool s, .string g]); exact Lw.calls_belowB (by simp) hb' (HD.out _))
      | (rw [ite3 HN.out]; exact ⟨rfl, rfl⟩)
      | (simp [go_sem, (two_cell hb' rfl).1 0 _ rfl, (two_cell hb' rfl).1 1 _ rfl, (two_cell hb' rfl).1 2 _ rfl, (two_cell hb' rfl).1 3 _ rfl]; rfl)
      | (simp [go_sem, (two_cell hb' rfl).2 0 _ rfl, (two_cell hb' rfl).2 1 _ rfl, (two_cell hb' rfl).2 2 _ rfl, (two_cell hb' rfl).2 3 _ rfl]; rfl)); go_big_quiet_on))
  refine wpQuiet_nil ?_
  intro w3 hb3
  replace hb3 := below_cast (B' := w.heap.size + 1 + 1) (by simp) hb3
  have hT3 : Hid (Tab w3) := HT1.out.belowB (by simp) hb3
  have hz : w.heap.size + 2 ≤ w3.heap.size := by have := hb3.size; simp at this; omega
  have HF : Hid (∀ w4, Below w3.heap.size w3 w4 → (∀ (k : Nat) (v : Value), (#[.bool x, .int .u32 (n : Int), .bool r, .string d] : Array Value)[k]? = some v → w4.cell? ⟨w.heap.size, k, none⟩ = some v) ∧ (∀ (k : Nat) (v : Value), (#[.bool y, .int .u32 (m : Int), .bool s, .string g] : Array Value)[k]? = some v → w4.cell? ⟨w.heap.size + 1, k, none⟩ = some v)) := fun w4 hb4 =>
    ⟨fun k v hv => (hb4.cell (p := ⟨w.heap.size, k, none⟩) (by simp; omega)).trans ((two_cell hb3 rfl).1 k v hv), fun k v hv => (hb4.cell (p := ⟨w.heap.size + 1, k, none⟩) (by simp; omega)).trans ((two_cell hb3 rfl).2 k v hv)⟩
  have hb5 : Below w.heap.size w w3 := (((Below.refl _ _).alloc (Nat.le_refl _) _).alloc (by simp) _).trans (hb3.mono (by omega))
  clear hb3 HT1
  go_wp2_with fail
  refine Lw.wp_region_quiet_below (by kernel_rfl) (by kernel_rfl) ?_
  repeat (first
    | go_big_quiet_skip
    | (go_big_quiet_want; go_big_quiet_op; go_big_quiet_on)
    | (go_big_quiet_want; go_big_quiet_op; apply Exists.intro; refine ⟨fun _ hb' => ?_, ?_⟩; (first
      | exact Lw.val_rfl _
      | (go_at_call_of 29 (Value.agg #[.bool x, .int .u32 (n : Int), .bool r, .string d]); exact Lw.calls_below hb' (HA.out _ (hT3.out.below hb')))
      | (go_at_call_of 29 (Value.agg #[.bool y, .int .u32 (m : Int), .bool s, .string g]); exact Lw.calls_below hb' (HB.out _ (hT3.out.below hb')))
      | (simp [go_sem, (HF.out _ hb').1 0 _ rfl, (HF.out _ hb').1 1 _ rfl, (HF.out _ hb').1 2 _ rfl, (HF.out _ hb').1 3 _ rfl]; rfl)
      | (simp [go_sem, (HF.out _ hb').2 0 _ rfl, (HF.out _ hb').2 1 _ rfl, (HF.out _ hb').2 2 _ rfl, (HF.out _ hb').2 3 _ rfl]; rfl)); go_big_quiet_on))
  refine wpQuiet_nil ?_
  intro w6 hb6
  have hb7 := below_join hb5 hb6
  clear hb6 hb5 HF hT3 HA HB HC HD HI HJ HN
  cases hl : Op.bytesLess (Bm.row (Fm.arb x n r d.data.toList)) (Bm.row (Fm.arb y m s g.data.toList))
  · have hl2 := (HLess.out).2 hl
    have hl3 : Hid (_) := hl2
    clear hl2 HLess
    go_wp2
    go_ret
    exact ⟨ret_int hl3.out.symm, hb7⟩
  · have hl2 := (HLess.out).1 hl
    have hl3 : Hid (_) := hl2
    clear hl2 HLess
    go_wp2
    go_ret
    exact ⟨ret_int hl3.out.symm, hb7⟩
set_option maxRecDepth 100000 in
set_option maxHeartbeats 1000000 in
theorem fCmp_same (x : Bool) (n : Nat) (r : Bool) (d : ByteArray) (g : ByteArray) (w : World) (hT : Tab w)
    (ha : Fm.isF x n r d.data.toList = true) (hb : Fm.isF x n r g.data.toList = true) :
    Calls Tryd.prog 17 #[.agg #[.bool x, .int .u32 n, .bool r, .string d], .agg #[.bool x, .int .u32 n, .bool r, .string g]] w fun e w' => e = .returned (.int .i64 (Fm.cmpB (Fm.arb x n r d.data.toList) (Fm.arb x n r g.data.toList))) ∧ Below w.heap.size w w' := by
  have HZ : Hid (Fm.cmpB (Fm.arb x n r d.data.toList) (Fm.arb x n r g.data.toList) = 0) := by
    show _ = _
    unfold Fm.arb
    rw [if_pos ha, if_pos hb, Fm.cmp_key x x n n r r (Fm.isF_parts ha).1 (Fm.isF_parts hb).1, Fm.sgn_eq]
  have HI : Hid (∀ d, Fm.isF x n r d.data.toList = true → ∀ w, Tab w → Calls Tryd.prog 27 #[.agg #[.bool x, .int .u32 n, .bool r, .string d]] w fun e w' => e = .returned (.bool true) ∧ Below w.heap.size w w') := fun d ha w hT => ha ▸ fIs_any x n r d w hT
  have HC : Hid (∀ d w, Calls Tryd.prog 28 #[.agg #[.bool x, .int .u32 n, .bool r, .string d]] w fun e w' => e = .returned (.agg #[.bool x, .int .u32 n, .bool r, .string ⟨#[]⟩]) ∧ Below w.heap.size w w') := fun d w => claim_any x n r d w
  have hT1 := (hT.alloc (.cells #[.bool x, .int .u32 n, .bool r, .string d] 30)).alloc (.cells #[.bool x, .int .u32 n, .bool r, .string g] 30)
  generalize Fm.cmpB (Fm.arb x n r d.data.toList) (Fm.arb x n r g.data.toList) = res at *
  go_enter Tryd.func17, Tryd.ntmps17
  have HT1 : Hid (Tab _) := hT1
  clear hT hT1
  go_wp2_with fail
  refine Lw.wp_region_quiet_below (by kernel_rfl) (by kernel_rfl) ?_
  repeat (first
    | go_big_quiet_skip
    | (go_big_quiet_want; go_big_quiet_op; go_big_quiet_on)
    | (go_big_quiet_want; go_big_quiet_op; apply Exists.intro; refine ⟨fun _ hb' => ?_, ?_⟩; (first
      | exact Lw.val_rfl _
      | (go_at_call 27; exact Lw.calls_belowB (by simp) hb' (HI.out _ (by assumption) _ (HT1.out.belowB (by simp) hb')))
      | (go_at_call 28; exact Lw.calls_belowB (by simp) hb' (HC.out _ _))
      | (simp [go_sem, (two_cell hb' rfl).1 0 _ rfl, (two_cell hb' rfl).1 1 _ rfl, (two_cell hb' rfl).1 2 _ rfl, (two_cell hb' rfl).1 3 _ rfl]; rfl)
      | (simp [go_sem, (two_cell hb' rfl).2 0 _ rfl, (two_cell hb' rfl).2 1 _ rfl, (two_cell hb' rfl).2 2 _ rfl, (two_cell hb' rfl).2 3 _ rfl]; rfl)); go_big_quiet_on))
  refine wpQuiet_nil ?_
  intro w3 hb3
  have hb5 : Below w.heap.size w w3 := (((Below.refl _ _).alloc (Nat.le_refl _) _).alloc (by simp) _).trans (hb3.mono (by simp; omega))
  go_wp2
  go_ret
  exact ⟨ret_int HZ.out.symm, hb5⟩
set_option maxRecDepth 100000 in
set_option maxHeartbeats 1000000 in
theorem fCmp_no1 (x : Bool) (n : Nat) (r : Bool) (d : ByteArray) (y : Bool) (m : Nat) (s : Bool) (g : ByteArray) (w : World) (hT : Tab w)
    (ha : Fm.isF x n r d.data.toList = false) :
    Calls Tryd.prog 17 #[.agg #[.bool x, .int .u32 n, .bool r, .string d], .agg #[.bool y, .int .u32 m, .bool s, .string g]] w fun e w' => e = .returned (.int .i64 (Fm.cmpB (Fm.arb x n r d.data.toList) (Fm.arb y m s g.data.toList))) ∧ Below w.heap.size w w' := by
  have HZ : Hid (Fm.cmpB (Fm.arb x n r d.data.toList) (Fm.arb y m s g.data.toList) = 0) := by
    show _ = _
    have e : Fm.arb x n r d.data.toList = [] := by unfold Fm.arb; rw [if_neg (by rw [ha]; decide)]
    rw [e]; rfl
  have HI : Hid (∀ w, Tab w → Calls Tryd.prog 27 #[.agg #[.bool x, .int .u32 n, .bool r, .string d]] w fun e w' => e = .returned (.bool false) ∧ Below w.heap.size w w') := fun w hT => ha ▸ fIs_any x n r d w hT
  have hT1 := (hT.alloc (.cells #[.bool x, .int .u32 n, .bool r, .string d] 30)).alloc (.cells #[.bool y, .int .u32 m, .bool s, .string g] 30)
  generalize Fm.cmpB (Fm.arb x n r d.data.toList) (Fm.arb y m s g.data.toList) = res at *
  go_enter Tryd.func17, Tryd.ntmps17
  have HT1 : Hid (Tab _) := hT1
  clear hT hT1
  go_wp2_with fail
  refine Lw.wp_region_quiet_below (by kernel_rfl) (by kernel_rfl) ?_
  repeat (first
    | go_big_quiet_skip
    | (go_big_quiet_want; go_big_quiet_op; go_big_quiet_on)
    | (go_big_quiet_want; go_big_quiet_op; apply Exists.intro; refine ⟨fun _ hb' => ?_, ?_⟩; (first
      | exact Lw.val_rfl _
      | (go_at_call 27; exact Lw.calls_belowB (by simp) hb' (HI.out _ (HT1.out.belowB (by simp) hb')))
      | (simp [go_sem, (two_cell hb' rfl).1 0 _ rfl, (two_cell hb' rfl).1 1 _ rfl, (two_cell hb' rfl).1 2 _ rfl, (two_cell hb' rfl).1 3 _ rfl]; rfl)); go_big_quiet_on))
  refine wpQuiet_nil ?_
  intro w3 hb3
  have hb5 : Below w.heap.size w w3 := (((Below.refl _ _).alloc (Nat.le_refl _) _).alloc (by simp) _).trans (hb3.mono (by simp; omega))
  go_wp2
  go_ret
  exact ⟨ret_int HZ.out.symm, hb5⟩
set_option maxRecDepth 100000 in
set_option maxHeartbeats 1000000 in
theorem fCmp_no2 (x : Bool) (n : Nat) (r : Bool) (d : ByteArray) (y : Bool) (m : Nat) (s : Bool) (g : ByteArray) (w : World) (hT : Tab w)
    (ha : Fm.isF x n r d.data.toList = true) (hb : Fm.isF y m s g.data.toList = false) :
    Calls Tryd.prog 17 #[.agg #[.bool x, .int .u32 n, .bool r, .string d], .agg #[.bool y, .int .u32 m, .bool s, .string g]] w fun e w' => e = .returned (.int .i64 (Fm.cmpB (Fm.arb x n r d.data.toList) (Fm.arb y m s g.data.toList))) ∧ Below w.heap.size w w' := by
  have HZ : Hid (Fm.cmpB (Fm.arb x n r d.data.toList) (Fm.arb y m s g.data.toList) = 0) := by
    show _ = _
    have e : Fm.arb y m s g.data.toList = [] := by unfold Fm.arb; rw [if_neg (by rw [hb]; decide)]
    rw [e]
    cases Fm.arb x n r d.data.toList <;> rfl
  have HI : Hid (∀ w, Tab w → Calls Tryd.prog 27 #[.agg #[.bool x, .int .u32 n, .bool r, .string d]] w fun e w' => e = .returned (.bool true) ∧ Below w.heap.size w w') := fun w hT => ha ▸ fIs_any x n r d w hT
  have HJ : Hid (∀ w, Tab w → Calls Tryd.prog 27 #[.agg #[.bool y, .int .u32 m, .bool s, .string g]] w fun e w' => e = .returned (.bool false) ∧ Below w.heap.size w w') := fun w hT => hb ▸ fIs_any y m s g w hT
  have hT1 := (hT.alloc (.cells #[.bool x, .int .u32 n, .bool r, .string d] 30)).alloc (.cells #[.bool y, .int .u32 m, .bool s, .string g] 30)
  have hxx : ¬ (x = y ∧ n = m ∧ r = s ∧ d = g) := fun ⟨h1, h2, h3, h4⟩ => by subst h1 h2 h3 h4; rw [ha] at hb; cases hb
  generalize Fm.cmpB (Fm.arb x n r d.data.toList) (Fm.arb y m s g.data.toList) = res at *
  go_enter Tryd.func17, Tryd.ntmps17
  have HT1 : Hid (Tab _) := hT1
  clear hT hT1 hxx
  go_wp2_with fail
  refine Lw.wp_region_quiet_below (by kernel_rfl) (by kernel_rfl) ?_
  repeat (first
    | go_big_quiet_skip
    | (go_big_quiet_want; go_big_quiet_op; go_big_quiet_on)
    | (go_big_quiet_want; go_big_quiet_op; apply Exists.intro; refine ⟨fun _ hb' => ?_, ?_⟩; (first
      | exact Lw.val_rfl _
      | (go_at_call_of 27 (Value.agg #[.bool x, .int .u32 (n : Int), .bool r, .string d]); exact Lw.calls_belowB (by simp) hb' (HI.out _ (HT1.out.belowB (by simp) hb')))
      | (go_at_call_of 27 (Value.agg #[.bool y, .int .u32 (m : Int), .bool s, .string g]); exact Lw.calls_belowB (by simp) hb' (HJ.out _ (HT1.out.belowB (by simp) hb')))
      | (simp [go_sem, (two_cell hb' rfl).1 0 _ rfl, (two_cell hb' rfl).1 1 _ rfl, (two_cell hb' rfl).1 2 _ rfl, (two_cell hb' rfl).1 3 _ rfl]; rfl)
      | (simp [go_sem, (two_cell hb' rfl).2 0 _ rfl, (two_cell hb' rfl).2 1 _ rfl, (two_cell hb' rfl).2 2 _ rfl, (two_cell hb' rfl).2 3 _ rfl]; rfl)); go_big_quiet_on))
  refine wpQuiet_nil ?_
  intro w3 hb3
  have hb5 : Below w.heap.size w w3 := (((Below.refl _ _).alloc (Nat.le_refl _) _).alloc (by simp) _).trans (hb3.mono (by simp; omega))
  go_wp2
  go_ret
  exact ⟨ret_int HZ.out.symm, hb5⟩
theorem fCmp_any (x : Bool) (n : Nat) (r : Bool) (d : ByteArray) (y : Bool) (m : Nat) (s : Bool) (g : ByteArray) (w : World) (hT : Tab w) (hn : n < 4294967296) (hm : m < 4294967296) :
    Calls Tryd.prog 17 #[.agg #[.bool x, .int .u32 n, .bool r, .string d], .agg #[.bool y, .int .u32 m, .bool s, .string g]] w fun e w' => e = .returned (.int .i64 (Fm.cmpB (Fm.arb x n r d.data.toList) (Fm.arb y m s g.data.toList))) ∧ Below w.heap.size w w' := by
  cases ha : Fm.isF x n r d.data.toList
  · exact fCmp_no1 x n r d y m s g w hT ha
  · cases hb : Fm.isF y m s g.data.toList
    · exact fCmp_no2 x n r d y m s g w hT ha hb
    · by_cases h : x = y ∧ n = m ∧ r = s
      · obtain ⟨rfl, rfl, rfl⟩ := h
        exact fCmp_same x n r d g w hT ha hb
      · exact fCmp_diff x n r d y m s g w hT hn hm ha hb h
end Go.Proofs.YtoinkaakiohclaaDoor
