/- FrameTells: of every frame whether it is one, its bits and its text are the document's; of every two frames the one that the document's order names wins. No condition but the row's own: the table of widths holds what the program's text lays. -/
import Derived.Test.YtfnbkehabadpmaaDoorGl
import Derived.Test.YtfnbkehabadpmaaDoorT4
import Derived.Test.YtfnbkehabadpmaaDoorT5
namespace Go.Proofs.YtfnbkehabadpmaaDoor.frameTells
open Go.ChangeShapes Go.WideShapes Go.ChangeAt Go.RowKit
open Go.ChangeMaps (open_string shut_string)
set_option linter.unusedVariables false
set_option maxRecDepth 100000 in
set_option maxHeartbeats 4000000 in
theorem walkN (x0 : Bool) (n0 : Nat) (r0 : Bool) (d0 : ByteArray) (h0 : n0 < 4294967296) (x1 : Bool) (n1 : Nat) (r1 : Bool) (d1 : ByteArray) (h1 : n1 < 4294967296) (W : World) (hT : Tab W) :
    Calls Tryd.prog 3 #[.agg #[.bool x0, .int .u32 n0, .bool r0, .string d0], .agg #[.bool x1, .int .u32 n1, .bool r1, .string d1]] W fun e w' => e = .returned (.bool true) ∧ Below W.heap.size W w' := by
  have HA : Hid (∀ w, Tab w → Calls Tryd.prog 11 #[.agg #[.bool x0, .int .u32 n0, .bool r0, .string d0]] w fun e w' => e = .returned (.bool (Fm.isF x0 n0 r0 d0.data.toList)) ∧ Below w.heap.size w w') := fun w hT => fIs_any x0 n0 r0 d0 w hT
  have HA2 : Hid (∀ w, Calls Tryd.prog 12 #[.agg #[.bool x0, .int .u32 n0, .bool r0, .string d0]] w fun e w' => e = .returned (.bool (Fm.isF x0 n0 r0 d0.data.toList)) ∧ Below w.heap.size w w') := fun w => refFIs_any x0 n0 r0 d0 w
  have HA3 : Hid (∀ w, Calls Tryd.prog 12 #[.agg #[.bool x1, .int .u32 n1, .bool r1, .string d1]] w fun e w' => e = .returned (.bool (Fm.isF x1 n1 r1 d1.data.toList)) ∧ Below w.heap.size w w') := fun w => refFIs_any x1 n1 r1 d1 w
  have HB : Hid (∀ w, Tab w → Calls Tryd.prog 13 #[.agg #[.bool x0, .int .u32 n0, .bool r0, .string d0]] w fun e w' => e = .returned (.string ⟨(Bm.row (Fm.body x0 n0 r0 d0.data.toList)).toArray⟩) ∧ Below w.heap.size w w') := fun w hT => fBody_any x0 n0 r0 d0 w hT h0
  have HB2 : Hid (∀ w, Calls Tryd.prog 14 #[.agg #[.bool x0, .int .u32 n0, .bool r0, .string d0]] w fun e w' => e = .returned (.string ⟨(Bm.row (Fm.body x0 n0 r0 d0.data.toList)).toArray⟩) ∧ Below w.heap.size w w') := fun w => refFBody_any x0 n0 r0 d0 w h0
  have HC : Hid (∀ w, Tab w → Calls Tryd.prog 15 #[.agg #[.bool x0, .int .u32 n0, .bool r0, .string d0]] w fun e w' => e = .returned (.string ⟨(Bm.row (Fm.arb x0 n0 r0 d0.data.toList)).toArray⟩) ∧ Below w.heap.size w w') := fun w hT => fArb_any x0 n0 r0 d0 w hT h0
  have HC2 : Hid (∀ w, Calls Tryd.prog 16 #[.agg #[.bool x0, .int .u32 n0, .bool r0, .string d0]] w fun e w' => e = .returned (.string ⟨(Bm.row (Fm.arb x0 n0 r0 d0.data.toList)).toArray⟩) ∧ Below w.heap.size w w') := fun w => refFArb_any x0 n0 r0 d0 w h0
  have HD : Hid (∀ w, Tab w → Calls Tryd.prog 17 #[.agg #[.bool x0, .int .u32 n0, .bool r0, .string d0]] w fun e w' => e = .returned (.string ⟨(Fm.text x0 n0 r0 d0.data.toList).toArray⟩) ∧ Below w.heap.size w w') := fun w hT => fText_any x0 n0 r0 d0 w hT h0
  have HD2 : Hid (∀ w, Calls Tryd.prog 18 #[.agg #[.bool x0, .int .u32 n0, .bool r0, .string d0]] w fun e w' => e = .returned (.string ⟨(Fm.text x0 n0 r0 d0.data.toList).toArray⟩) ∧ Below w.heap.size w w') := fun w => refFText_any x0 n0 r0 d0 w h0
  have HE : Hid (∀ w, Tab w → Calls Tryd.prog 19 #[.agg #[.bool x0, .int .u32 n0, .bool r0, .string d0], .agg #[.bool x1, .int .u32 n1, .bool r1, .string d1]] w fun e w' => e = .returned (.int .i64 (Fm.cmpB (Fm.arb x0 n0 r0 d0.data.toList) (Fm.arb x1 n1 r1 d1.data.toList))) ∧ Below w.heap.size w w') := fun w hT => fCmp_any x0 n0 r0 d0 x1 n1 r1 d1 w hT h0 h1
  have HE2 : Hid (∀ w, Calls Tryd.prog 20 #[.agg #[.bool x0, .int .u32 n0, .bool r0, .string d0], .agg #[.bool x1, .int .u32 n1, .bool r1, .string d1]] w fun e w' => e = .returned (.int .i64 (Fm.cmpB (Fm.arb x0 n0 r0 d0.data.toList) (Fm.arb x1 n1 r1 d1.data.toList))) ∧ Below w.heap.size w w') := fun w => refFCmp_any x0 n0 r0 d0 x1 n1 r1 d1 w h0 h1
  generalize Fm.cmpB (Fm.arb x0 n0 r0 d0.data.toList) (Fm.arb x1 n1 r1 d1.data.toList) = cm at *
  generalize ByteArray.mk (Fm.text x0 n0 r0 d0.data.toList).toArray = TX at *
  generalize ByteArray.mk (Bm.row (Fm.arb x0 n0 r0 d0.data.toList)).toArray = AR at *
  generalize ByteArray.mk (Bm.row (Fm.body x0 n0 r0 d0.data.toList)).toArray = BO at *
  generalize Fm.isF x0 n0 r0 d0.data.toList = i0 at *
  generalize Fm.isF x1 n1 r1 d1.data.toList = i1 at *
  have HT1 : Hid (Tab _) := (hT.alloc (.cells #[.bool x0, .int .u32 n0, .bool r0, .string d0] 24)).alloc (.cells #[.bool x1, .int .u32 n1, .bool r1, .string d1] 24)
  clear hT
  go_enter Tryd.func3, Tryd.ntmps3
  go_wp2_with fail
  refine (known3_any _ HT1.out).mono ?_
  rintro e w1 ⟨rfl, hb1⟩
  have La : Hid (Lies w1 W.heap.size x0 n0 r0 d0) := ((Lies.new W x0 n0 r0 d0).alloc _).on hb1
  have Lb : Hid (Lies w1 (W.heap.size + 1) x1 n1 r1 d1) := (Lies.new1 W _ x1 n1 r1 d1).on hb1
  have HT2 : Hid (Tab w1) := HT1.out.below hb1
  have hA1 : Hid (Below W.heap.size W w1) := (((Below.refl _ _).alloc (Nat.le_refl _) _).alloc (by simp) _).trans (hb1.mono (by simp; omega))
  clear hb1 HT1
  have c0 := La.out.c0
  have c1 := La.out.c1
  have c2 := La.out.c2
  have c3 := La.out.c3
  go_wp2_with fail
  refine (few_any _ _ _ _ _).mono ?_
  rintro e w2 ⟨rfl, hb2⟩
  have La2 : Hid (_) := La.out.on hb2
  have Lb2 : Hid (_) := Lb.out.on hb2
  have HT3 : Hid (Tab w2) := HT2.out.below hb2
  have hA2 : Hid (Below W.heap.size W w2) := below_join hA1.out hb2
  clear hb2 HT2 hA1 La Lb c0 c1 c2 c3
  cases f0 : decide ((d0.size : Int) ≤ 20)
  · go_wp2
    go_ret
    exact ⟨rfl, hA2.out⟩
  · have c0 := Lies.c0 Lb2.out
    have c1 := Lies.c1 Lb2.out
    have c2 := Lies.c2 Lb2.out
    have c3 := Lies.c3 Lb2.out
    go_wp2_with fail
    refine (few_any _ _ _ _ _).mono ?_
    rintro e w3 ⟨rfl, hb3⟩
    have La3 : Hid (_) := Lies.on La2.out hb3
    have Lb3 : Hid (_) := Lies.on Lb2.out hb3
    have HT4 : Hid (Tab w3) := HT3.out.below hb3
    have hA3 : Hid (Below W.heap.size W w3) := below_join hA2.out hb3
    clear hb3 HT3 hA2 La2 Lb2 c0 c1 c2 c3
    cases f1 : decide ((d1.size : Int) ≤ 20)
    · go_wp2
      go_ret
      exact ⟨rfl, hA3.out⟩
    · go_wp2_with fail
      refine Lw.wp_region_quiet_below (by kernel_rfl) (by kernel_rfl) ?_
      repeat (first
        | go_big_quiet_skip
        | (go_big_quiet_want; go_big_quiet_op; go_big_quiet_on)
        | (go_big_quiet_want; go_big_quiet_op; apply Exists.intro; refine ⟨fun _ hb' => ?_, ?_⟩; (first
          | exact Lw.val_rfl _
          | (go_at_call 11; exact Lw.calls_below hb' (HA.out _ (HT4.out.below hb')))
          | (go_at_call 12; exact Lw.calls_below hb' (HA2.out _))
          | (go_at_call 13; exact Lw.calls_below hb' (HB.out _ (HT4.out.below hb')))
          | (go_at_call 14; exact Lw.calls_below hb' (HB2.out _))
          | (go_at_call 15; exact Lw.calls_below hb' (HC.out _ (HT4.out.below hb')))
          | (go_at_call 16; exact Lw.calls_below hb' (HC2.out _))
          | (go_at_call 17; exact Lw.calls_below hb' (HD.out _ (HT4.out.below hb')))
          | (go_at_call 18; exact Lw.calls_below hb' (HD2.out _))
          | (simp [go_sem, (Lies.on La3.out hb').c0, (Lies.on La3.out hb').c1, (Lies.on La3.out hb').c2, (Lies.on La3.out hb').c3]; rfl)); go_big_quiet_on))
      refine wpQuiet_nil ?_
      intro w5 hb5
      have La5 : Hid (_) := Lies.on La3.out hb5
      have Lb5 : Hid (_) := Lies.on Lb3.out hb5
      have HT5 : Hid (Tab w5) := HT4.out.below hb5
      have hA5 : Hid (Below W.heap.size W w5) := below_join hA3.out hb5
      clear hb5 HT4 hA3 La3 Lb3
      go_wp2_with fail
      cases i0
      · skip
        refine Lw.wp_region_quiet_below (by kernel_rfl) (by kernel_rfl) ?_
        repeat (first
          | go_big_quiet_skip
          | (go_big_quiet_want; go_big_quiet_op; go_big_quiet_on)
          | (go_big_quiet_want; go_big_quiet_op; apply Exists.intro; refine ⟨fun _ hb' => ?_, ?_⟩; (first
            | exact Lw.val_rfl _
            | (go_at_call 12; exact Lw.calls_below hb' (HA2.out _))
            | (simp [go_sem, (Lies.on La5.out hb').c0, (Lies.on La5.out hb').c1, (Lies.on La5.out hb').c2, (Lies.on La5.out hb').c3]; rfl)); go_big_quiet_on))
        refine wpQuiet_nil ?_
        intro w6 hb6
        have hA6 := below_join hA5.out hb6
        go_wp2
        go_ret
        exact ⟨rfl, hA6⟩
      · cases i1
        · skip
          refine Lw.wp_region_quiet_below (by kernel_rfl) (by kernel_rfl) ?_
          repeat (first
            | go_big_quiet_skip
            | (go_big_quiet_want; go_big_quiet_op; go_big_quiet_on)
            | (go_big_quiet_want; go_big_quiet_op; apply Exists.intro; refine ⟨fun _ hb' => ?_, ?_⟩; (first
              | exact Lw.val_rfl _
              | (go_at_call_of 12 (Value.agg #[.bool x0, .int .u32 (n0 : Int), .bool r0, .string d0]); exact Lw.calls_below hb' (HA2.out _))
              | (go_at_call 12; exact Lw.calls_below hb' (HA3.out _))
              | (simp [go_sem, (Lies.on La5.out hb').c0, (Lies.on La5.out hb').c1, (Lies.on La5.out hb').c2, (Lies.on La5.out hb').c3]; rfl)
              | (simp [go_sem, (Lies.on Lb5.out hb').c0, (Lies.on Lb5.out hb').c1, (Lies.on Lb5.out hb').c2, (Lies.on Lb5.out hb').c3]; rfl)); go_big_quiet_on))
          refine wpQuiet_nil ?_
          intro w6 hb6
          have hA6 := below_join hA5.out hb6
          go_wp2
          go_ret
          exact ⟨rfl, hA6⟩
        · skip
          refine Lw.wp_region_quiet_below (by kernel_rfl) (by kernel_rfl) ?_
          repeat (first
            | go_big_quiet_skip
            | (go_big_quiet_want; go_big_quiet_op; go_big_quiet_on)
            | (go_big_quiet_want; go_big_quiet_op; apply Exists.intro; refine ⟨fun _ hb' => ?_, ?_⟩; (first
              | exact Lw.val_rfl _
              | (go_at_call_of 12 (Value.agg #[.bool x0, .int .u32 (n0 : Int), .bool r0, .string d0]); exact Lw.calls_below hb' (HA2.out _))
              | (go_at_call 12; exact Lw.calls_below hb' (HA3.out _))
              | (go_at_call 19; exact Lw.calls_below hb' (HE.out _ (HT5.out.below hb')))
              | (go_at_call 20; exact Lw.calls_below hb' (HE2.out _))
              | (simp [go_sem, (Lies.on La5.out hb').c0, (Lies.on La5.out hb').c1, (Lies.on La5.out hb').c2, (Lies.on La5.out hb').c3]; rfl)
              | (simp [go_sem, (Lies.on Lb5.out hb').c0, (Lies.on Lb5.out hb').c1, (Lies.on Lb5.out hb').c2, (Lies.on Lb5.out hb').c3]; rfl)); go_big_quiet_on))
          refine wpQuiet_nil ?_
          intro w6 hb6
          have hA6 := below_join hA5.out hb6
          go_wp2
          go_ret
          exact ⟨rfl, hA6⟩
theorem walk (x0 : Bool) (n0 : Int) (r0 : Bool) (d0 : ByteArray) (w0 : (Lit.int .u32 n0).wf = true) (u0 : d0.size ≤ maxLen) (x1 : Bool) (n1 : Int) (r1 : Bool) (d1 : ByteArray) (w1 : (Lit.int .u32 n1).wf = true) (u1 : d1.size ≤ maxLen) (W : World) (hT : Tab W) :
    Calls Tryd.prog 3 #[.agg #[.bool x0, .int .u32 n0, .bool r0, .string d0], .agg #[.bool x1, .int .u32 n1, .bool r1, .string d1]] W fun e w' => e = .returned (.bool true) ∧ Below W.heap.size W w' := by
  obtain ⟨m0, rfl, h0⟩ := u32_nat w0
  obtain ⟨m1, rfl, h1⟩ := u32_nat w1
  exact walkN x0 m0 r0 d0 h0 x1 m1 r1 d1 h1 W hT
theorem own : ownKnob Tryd.prog.godebug = none := by kernel_rfl
theorem contract (H : Type) (enc : TypeId × Value → H) (W : World) (base : Nat) (args : Array Value) (ds gs : List (DataW H)) (before : List MemPlace)
    (hval0 : ∀ (j : Nat) t v, Tryd.f3.params[j]? = some t → args[j]? = some v → Value.okWide Tryd.prog W .any base t v)
    (hW : DataW.Whole enc Tryd.prog Tryd.f3.params.toList Rows.frameTellsSpec.vars false W args.toList ds gs before) (hL : laidMetH Tryd.prog Rows.frameTellsRow.laid W) :
    Calls Tryd.prog 3 args W fun e W' => ∃ v, e = .returned v ∧ Rows.frameTellsSpec.post enc Tryd.prog Tryd.f3 false true false false W args v W' := by
  have hval : ∀ (j : Nat) t v, Tryd.f3.params[j]? = some t → args[j]? = some v → Value.okWide Tryd.prog W .any base t v := hval0
  have hW' := hW
  obtain ⟨p, q, hA0, hV, rfl, hfz, hnd⟩ := hW
  have hA : DataW.TrodAll enc Tryd.prog W 0 (fun _ => true) true Tryd.f3.params.toList args.toList ds p := hA0
  rw [Tryd.params3] at hA hval
  obtain ⟨v0, vs0, d0, ds0, p0, q0, hargs, rfl, rfl, h0, rr0⟩ := trodAll_cons hA
  obtain ⟨v1, vs1, d1, ds1, p1, q1, rfl, rfl, rfl, h1, rr1⟩ := trodAll_cons rr0
  obtain ⟨rfl, rfl, rfl⟩ := trodAll_nil rr1
  obtain rfl : args = #[v0, v1] := by cases args; simp_all
  obtain ⟨rfl, rfl⟩ := trodVars_none hV
  obtain ⟨e0, e1, e2, e3, y0, y1, y2, y3, n0, rfl, rfl, rfl, k0, k1, k2, k3⟩ := Joins.open_agg4 Tryd.underlying24 (by kernel_rfl) (by kernel_rfl) (hval 0 24 v0 rfl rfl) h0
  obtain ⟨x0, hx0, rfl⟩ := DataW.trod_bool Tryd.underlying4 k0
  obtain ⟨n0, hx1, rfl, w0⟩ := DataW.trod_int Tryd.underlying22 k1
  obtain ⟨r0, hx2, rfl⟩ := DataW.trod_bool Tryd.underlying4 k2
  obtain ⟨d0, hx3, rfl, u0⟩ := DataW.trod_string Tryd.underlying9 k3
  obtain rfl := List.singleton_inj.1 hx0
  obtain rfl := List.singleton_inj.1 hx1
  obtain rfl := List.singleton_inj.1 hx2
  obtain rfl := List.singleton_inj.1 hx3
  clear k0 k1 k2 k3 hx0 hx1 hx2 hx3
  obtain ⟨e0, e1, e2, e3, y0, y1, y2, y3, n1, rfl, rfl, rfl, k0, k1, k2, k3⟩ := Joins.open_agg4 Tryd.underlying24 (by kernel_rfl) (by kernel_rfl) (hval 1 24 v1 rfl rfl) h1
  obtain ⟨x1, hx0, rfl⟩ := DataW.trod_bool Tryd.underlying4 k0
  obtain ⟨n1, hx1, rfl, w1⟩ := DataW.trod_int Tryd.underlying22 k1
  obtain ⟨r1, hx2, rfl⟩ := DataW.trod_bool Tryd.underlying4 k2
  obtain ⟨d1, hx3, rfl, u1⟩ := DataW.trod_string Tryd.underlying9 k3
  obtain rfl := List.singleton_inj.1 hx0
  obtain rfl := List.singleton_inj.1 hx1
  obtain rfl := List.singleton_inj.1 hx2
  obtain rfl := List.singleton_inj.1 hx3
  clear k0 k1 k2 k3 hx0 hx1 hx2 hx3
  clear hA0 hval0
  refine (walk x0 n0 r0 d0 w0 u0 x1 n1 r1 d1 w1 u1 W (tab_of_laid hL)).mono fun e W' ⟨he, bel⟩ => ?_
  subst he
  exact ⟨_, rfl, _, _, _, [], _, [], hW', trodAll_mk1 (shut_bool Tryd.underlying4 _), (trodAll_cons_mk (shut_frame w0 u0) (trodAll_cons_mk (shut_frame w1 u1) trodAll_mk0)), rfl, bel.frame _, fun h => by cases h⟩
theorem laid_met (os : Os) : laidMet Tryd.prog Rows.frameTellsRow.laid ((tabWorld os).forCall (fun _ _ => 0) ⟨#[], #[.agg #[.bool false, .int .u32 0, .bool false, .string ByteArray.empty], .agg #[.bool false, .int .u32 0, .bool false, .string ByteArray.empty]], []⟩).memory :=
  laidMet_of_run' 8 (by kernel_rfl) (by kernel_rfl)
theorem reads (os : Os) {H : Type} (enc : TypeId × Value → H) : ∃ places, DataW.whole enc Tryd.prog ((tabWorld os).forCall (fun _ _ => 0) ⟨#[], #[.agg #[.bool false, .int .u32 0, .bool false, .string ByteArray.empty], .agg #[.bool false, .int .u32 0, .bool false, .string ByteArray.empty]], []⟩).memory Tryd.f3.params.toList Rows.frameTellsSpec.vars false #[Value.agg #[.bool false, .int .u32 0, .bool false, .string ByteArray.empty], .agg #[.bool false, .int .u32 0, .bool false, .string ByteArray.empty]].toList 8 = some ([.agg [.lit (.bool false), .lit (.int .u32 0), .lit (.bool false), .lit (.string [])], .agg [.lit (.bool false), .lit (.int .u32 0), .lit (.bool false), .lit (.string [])]], [], places) :=
  ⟨[], by kernel_rfl⟩
set_option maxRecDepth 100000 in
theorem lifted (os : Os) (started : os.Started) (H : Type) (enc : TypeId × Value → H) (F : Stop.Interp) :
    ReturnsInHanded {} Tryd.checked os 3 .any ((OpenSpec.ofChange Rows.frameTellsSpec).preRow enc Tryd.prog Tryd.f3 Rows.frameTellsRow.domain false Rows.frameTellsRow.laid) (((OpenSpec.ofChange Rows.frameTellsSpec).at F).post enc Tryd.prog Tryd.f3 false true false false) := by
  obtain ⟨places, hx⟩ := reads os enc
  refine returnsInHanded_of_row (C := Tryd.checked) (s := OpenSpec.ofChange Rows.frameTellsSpec) own started (by kernel_rfl) Tryd.func3
    (witness_row_at (enc := enc) (C := Tryd.checked) false (tabWorld os) #[.agg #[.bool false, .int .u32 0, .bool false, .string ByteArray.empty], .agg #[.bool false, .int .u32 0, .bool false, .string ByteArray.empty]] rfl (by kernel_rfl) (by kernel_rfl) (by kernel_rfl)
      (OpenSpec.preRow_of_cond 8 hx (by kernel_rfl) (fun k hk => by cases hk) (by kernel_rfl) (laid_met os))) ?_
  intro W base args ds gs before hval hW _ _ _ hL _ _
  exact contract H enc W base args ds gs before hval hW hL
theorem said : Rows.FrameTellsSaid :=
  OpenClaim.holds_of_cond 3 Tryd.f3 rfl rfl rfl rfl rfl rfl rfl ⟨rfl, rfl, rfl, rfl, rfl⟩ rfl rfl rfl rfl rfl (by kernel_rfl) Tryd.func3 (by kernel_rfl)
    (of_decide_eq_true (by kernel_rfl)) (by unfold Func.isWrapper; first | (rw [if_pos (by decide +kernel)]; kernel_rfl) | (rw [if_neg (by decide +kernel)]; exact ⟨rfl, rfl⟩))
    (fun os started H enc _ F => by rw [OpenClaim.pre_eq_preRow]; exact lifted os started H enc F)
theorem plain (f : FuncId) (fn : Func) (hf : Tryd.pinned.checked.prog.funcNamed "ostinato/ostinatolaw3.FrameTells" = some f) (hfn : Tryd.pinned.checked.prog.funcs[f]? = some fn) :
    false = Tryd.pinned.checked.prog.looks [] ∧ ∀ (j : Nat) t, fn.params[j]? = some t → Tryd.pinned.checked.prog.wantsStandIn t = false := by
  obtain rfl : f = 3 := Option.some.inj ((show Tryd.prog.funcNamed "ostinato/ostinatolaw3.FrameTells" = some 3 by kernel_rfl).symm.trans hf) |>.symm
  obtain rfl : fn = Tryd.f3 := (Option.some.inj (Tryd.func3.symm.trans hfn)).symm
  refine ⟨by kernel_rfl, fun j t ht => ?_⟩
  rw [Tryd.params3] at ht
  have hm : t ∈ [24] := by have := Array.mem_of_getElem? ht; simp at this ⊢; omega
  have hall : ([24].all fun u => !Tryd.prog.wantsStandIn u) = true := by kernel_rfl
  exact (show Tryd.prog.wantsStandIn t = false by simpa using List.all_eq_true.1 hall t hm)
end Go.Proofs.YtfnbkehabadpmaaDoor.frameTells
namespace Go.Proofs.YtfnbkehabadpmaaDoor
/-- The statement. -/
theorem frameTells_holds : Rows.FrameTellsCardSaid :=
  Claim7.holds_tied_plain_at .later [] _ _ _ _ frameTells.said (fun _ h => by cases h) (by kernel_rfl) (fun _ h => by cases h) frameTells_row_tie rfl ⟨rfl, rfl⟩ (by kernel_rfl) rfl frameTells.plain (by kernel_rfl)
#print axioms frameTells_holds
end Go.Proofs.YtfnbkehabadpmaaDoor
