/- StuffOpposite: of every text of at most 200 bytes (longer ones are let by) the opposite bits have the opposite ones laid between, taken away and coming next; no condition. -/
import Derived.Test.YtcgpnnmceijmjaaRows
import Derived.Test.YtcgpnnmceijmjaaSt
import Derived.WalkKit
import Derived.ProofKit
import Derived.OpenShut
import Derived.ShutString
namespace Go.Proofs.Ytcgpnnmceijmjaa.stuffOpposite
open Go.ChangeShapes Go.WideShapes Go.ChangeAt Go.RowKit
open Go.ChangeMaps (open_string shut_string)
set_option linter.unusedVariables false
set_option maxRecDepth 100000 in
set_option maxHeartbeats 1000000 in
theorem below (a0 : ByteArray) (hlen : a0.size ≤ 200) (w : World) (hn : Sm.next (Bm.read a0.data.toList) < 0) (he : Sm.next (Bm.read a0.data.toList) = Sm.next ((Bm.read a0.data.toList).map not)) :
    Calls Try.prog 8 #[.string a0] w fun e w' => e = .returned (.bool true) ∧ Below w.heap.size w w' := by
  have hl0 : (Bm.read a0.data.toList).length = a0.size := by rw [Bm.length_read]; simp
  have hl1 : ((Bm.read a0.data.toList).map not).length = a0.size := by rw [List.length_map, hl0]
  have hst := Sm.stuff_len_le (Bm.read a0.data.toList)
  have hmo := Sm.most_le (Bm.read a0.data.toList).length
  have hun := Sm.unstuff_len (Bm.read a0.data.toList)
  have HS : Hid (_) := Sm.stuff_neg (Bm.read a0.data.toList)
  have HU : Hid (_) := Sm.unstuff_neg (Bm.read a0.data.toList)
  have HT : Hid (∀ w, Calls Try.prog 18 #[.string a0] w fun e w' => e = .returned (.string ⟨(Bm.row ((Bm.read a0.data.toList).map not)).toArray⟩) ∧ Below w.heap.size w w') := fun w => turned_any a0 w (by omega)
  have HA : Hid (∀ w, Calls Try.prog 12 #[.string a0] w fun e w' => e = .returned (.string ⟨(Bm.row (Sm.stuff (Bm.read a0.data.toList))).toArray⟩) ∧ Below w.heap.size w w') := fun w => stuff_any a0 w (by omega)
  have HX : Hid (∀ w, Calls Try.prog 10 #[.string a0] w fun e w' => e = .returned (.tuple #[.string ⟨(Bm.row (Sm.unstuff (Bm.read a0.data.toList)).1).toArray⟩, .int .i64 (Sm.unstuff (Bm.read a0.data.toList)).2]) ∧ Below w.heap.size w w') := fun w => unstuff_any a0 w (by omega)
  have HN : Hid (∀ w, Calls Try.prog 14 #[.string a0] w fun e w' => e = .returned (.int .i64 (Sm.next (Bm.read a0.data.toList))) ∧ Below w.heap.size w w') := fun w => next_any a0 w (by omega)
  generalize Bm.read a0.data.toList = bs at *
  have t1 : decide (Sm.next bs < 0) = true := decide_eq_true hn
  have t2 : (Sm.next bs == Sm.next (bs.map not)) = true := by rw [he]; simp
  clear he
  go_enter Try.func8, Try.ntmps8
  go_wp2_with fail
  refine (known2_any _).mono ?_; rintro e w1 ⟨rfl, hb1⟩
  go_wp2_with fail
  refine (HA.out _).mono ?_; rintro e w2 ⟨rfl, hb2⟩
  go_wp2_with fail
  refine (HT.out _).mono ?_; rintro e w3 ⟨rfl, hb3⟩
  go_wp2_with fail
  refine (stuff_row _ _ (by omega)).mono ?_; rintro e w4 ⟨rfl, hb4⟩
  rw [HS.out]
  go_wp2_with fail
  refine (HX.out _).mono ?_; rintro e w5 ⟨rfl, hb5⟩
  go_wp2_with fail
  refine (HT.out _).mono ?_; rintro e w6 ⟨rfl, hb6⟩
  go_wp2_with fail
  refine (unstuff_row _ _ (by omega)).mono ?_; rintro e w7 ⟨rfl, hb7⟩
  rw [HU.out]
  go_wp2_with fail
  refine (HN.out _).mono ?_; rintro e w8 ⟨rfl, hb8⟩
  go_wp2_with fail
  refine (HT.out _).mono ?_; rintro e w9 ⟨rfl, hb9⟩
  go_wp2_with fail
  refine (next_row _ _ (by omega)).mono ?_; rintro e w10 ⟨rfl, hb10⟩
  go_wp2_with fail
  refine (turned_row _ _ (by omega)).mono ?_; rintro e w11 ⟨rfl, hb11⟩
  go_wp2_with fail
  refine (turned_row _ _ (by omega)).mono ?_; rintro e w12 ⟨rfl, hb12⟩
  go_wp2_with fail
  go_ret
  refine ⟨?_, below_join (below_join (below_join (below_join (below_join (below_join (below_join (below_join (below_join (below_join (below_join hb1 hb2) hb3) hb4) hb5) hb6) hb7) hb8) hb9) hb10) hb11) hb12⟩
  rfl
set_option maxRecDepth 100000 in
set_option maxHeartbeats 1000000 in
theorem above (a0 : ByteArray) (hlen : a0.size ≤ 200) (w : World) (hn : 0 ≤ Sm.next (Bm.read a0.data.toList)) (he : Sm.next ((Bm.read a0.data.toList).map not) = 1 - Sm.next (Bm.read a0.data.toList)) :
    Calls Try.prog 8 #[.string a0] w fun e w' => e = .returned (.bool true) ∧ Below w.heap.size w w' := by
  have hl0 : (Bm.read a0.data.toList).length = a0.size := by rw [Bm.length_read]; simp
  have hl1 : ((Bm.read a0.data.toList).map not).length = a0.size := by rw [List.length_map, hl0]
  have hst := Sm.stuff_len_le (Bm.read a0.data.toList)
  have hmo := Sm.most_le (Bm.read a0.data.toList).length
  have hun := Sm.unstuff_len (Bm.read a0.data.toList)
  have HS : Hid (_) := Sm.stuff_neg (Bm.read a0.data.toList)
  have HU : Hid (_) := Sm.unstuff_neg (Bm.read a0.data.toList)
  have HT : Hid (∀ w, Calls Try.prog 18 #[.string a0] w fun e w' => e = .returned (.string ⟨(Bm.row ((Bm.read a0.data.toList).map not)).toArray⟩) ∧ Below w.heap.size w w') := fun w => turned_any a0 w (by omega)
  have HA : Hid (∀ w, Calls Try.prog 12 #[.string a0] w fun e w' => e = .returned (.string ⟨(Bm.row (Sm.stuff (Bm.read a0.data.toList))).toArray⟩) ∧ Below w.heap.size w w') := fun w => stuff_any a0 w (by omega)
  have HX : Hid (∀ w, Calls Try.prog 10 #[.string a0] w fun e w' => e = .returned (.tuple #[.string ⟨(Bm.row (Sm.unstuff (Bm.read a0.data.toList)).1).toArray⟩, .int .i64 (Sm.unstuff (Bm.read a0.data.toList)).2]) ∧ Below w.heap.size w w') := fun w => unstuff_any a0 w (by omega)
  have HN : Hid (∀ w, Calls Try.prog 14 #[.string a0] w fun e w' => e = .returned (.int .i64 (Sm.next (Bm.read a0.data.toList))) ∧ Below w.heap.size w w') := fun w => next_any a0 w (by omega)
  generalize Bm.read a0.data.toList = bs at *
  have t1 : decide (Sm.next bs < 0) = false := decide_eq_false (by omega)
  have t3 : decide (0 ≤ Sm.next bs) = true := decide_eq_true hn
  have hn1 := Sm.next_le bs
  have t2 : (Sm.next (bs.map not) == 1 - Sm.next bs) = true := by rw [he]; simp
  clear he
  go_enter Try.func8, Try.ntmps8
  go_wp2_with fail
  refine (known2_any _).mono ?_; rintro e w1 ⟨rfl, hb1⟩
  go_wp2_with fail
  refine (HA.out _).mono ?_; rintro e w2 ⟨rfl, hb2⟩
  go_wp2_with fail
  refine (HT.out _).mono ?_; rintro e w3 ⟨rfl, hb3⟩
  go_wp2_with fail
  refine (stuff_row _ _ (by omega)).mono ?_; rintro e w4 ⟨rfl, hb4⟩
  rw [HS.out]
  go_wp2_with fail
  refine (HX.out _).mono ?_; rintro e w5 ⟨rfl, hb5⟩
  go_wp2_with fail
  refine (HT.out _).mono ?_; rintro e w6 ⟨rfl, hb6⟩
  go_wp2_with fail
  refine (unstuff_row _ _ (by omega)).mono ?_; rintro e w7 ⟨rfl, hb7⟩
  rw [HU.out]
  go_wp2_with fail
  refine (HN.out _).mono ?_; rintro e w8 ⟨rfl, hb8⟩
  go_wp2_with fail
  refine (HT.out _).mono ?_; rintro e w9 ⟨rfl, hb9⟩
  go_wp2_with fail
  refine (next_row _ _ (by omega)).mono ?_; rintro e w10 ⟨rfl, hb10⟩
  go_wp2_with fail
  refine (turned_row _ _ (by omega)).mono ?_; rintro e w11 ⟨rfl, hb11⟩
  go_wp2_with fail
  refine (turned_row _ _ (by omega)).mono ?_; rintro e w12 ⟨rfl, hb12⟩
  go_wp2_with fail
  go_ret
  refine ⟨?_, below_join (below_join (below_join (below_join (below_join (below_join (below_join (below_join (below_join (below_join (below_join hb1 hb2) hb3) hb4) hb5) hb6) hb7) hb8) hb9) hb10) hb11) hb12⟩
  rfl
set_option maxRecDepth 100000 in
theorem walk (a0 : ByteArray) (w0 : a0.size ≤ maxLen) (w : World) :
    Calls Try.prog 8 #[.string a0] w fun e w' => e = .returned (.bool true) ∧ Below w.heap.size w w' := by
  have hm := w0
  unfold maxLen at hm
  by_cases hlen : 200 < a0.size
  · go_enter Try.func8, Try.ntmps8
    go_wp2_with fail
    refine (known2_any _).mono ?_; rintro e w1 ⟨rfl, hb1⟩
    go_wp2_with fail
    go_ret
    exact ⟨rfl, hb1⟩
  · rcases Sm.next_neg (Bm.read a0.data.toList) with ⟨h1, h2⟩ | ⟨h1, h2⟩
    · exact below a0 (by omega) w h1 h2
    · exact above a0 (by omega) w h1 h2
theorem own : ownKnob Try.prog.godebug = none := by kernel_rfl
set_option maxRecDepth 100000 in
theorem lifted (os : Os) (started : os.Started) (H : Type) (enc : TypeId × Value → H) :
    ReturnsInHanded {} Try.checked os 8 .any (Rows.stuffOppositeSpec.pre6 enc Try.prog Try.f8 Rows.stuffOppositeRow.domain false) (Rows.stuffOppositeSpec.post enc Try.prog Try.f8 false true false false) := by
  refine returnsInHanded_of_change (C := Try.checked) own started (by kernel_rfl) Try.func8
    (ChangeSpec.witness6 (enc := enc) (C := Try.checked) false ⟨#[], #[.string ByteArray.empty], []⟩ 8 (by kernel_rfl) (by kernel_rfl) (by kernel_rfl) (by kernel_rfl)) ?_
  intro W base args ds gs before hval0 hW hcnd _
  have hval : ∀ (j : Nat) t v, Try.f8.params[j]? = some t → args[j]? = some v → Value.okWide Try.prog W .any base t v := hval0
  have hW' := hW
  obtain ⟨p, q, hA0, hV, rfl, hfz, hnd⟩ := hW
  have hA : DataW.TrodAll enc Try.prog W 0 (fun _ => true) true Try.f8.params.toList args.toList ds p := hA0
  rw [Try.params8] at hA hval
  obtain ⟨v0, vs0, d0, ds0, p0, q0, hargs, rfl, rfl, h0, r0⟩ := trodAll_cons hA
  obtain ⟨rfl, rfl, rfl⟩ := trodAll_nil r0
  obtain rfl : args = #[v0] := by cases args; simp_all
  obtain ⟨rfl, rfl⟩ := trodVars_none hV
  obtain ⟨a0, rfl, rfl, rfl, w0⟩ := open_string Try.underlying9 (hval 0 9 v0 rfl rfl) h0
  clear hA0 hval0
  refine (walk a0 w0 W).mono fun e W' ⟨he, bel⟩ => ?_
  subst he
  exact ⟨_, rfl, _, _, _, [], _, [], hW', trodAll_mk1 (shut_bool Try.underlying4 _), (trodAll_cons_mk (shut_string Try.underlying9 w0) trodAll_mk0), rfl, bel.frame _, fun h => by cases h⟩
theorem over : Rows.stuffOppositeRow.holds Try.pinned (OpenSpec.ofChange Rows.stuffOppositeSpec) :=
  OpenClaim.holds_of_wide 8 Try.f8 rfl rfl rfl rfl rfl rfl rfl ⟨rfl, rfl, rfl, rfl, rfl⟩ rfl rfl rfl rfl rfl (by kernel_rfl) Try.func8 (by kernel_rfl)
    (of_decide_eq_true (by kernel_rfl)) (by unfold Func.isWrapper; first | (rw [if_pos (by decide +kernel)]; kernel_rfl) | (rw [if_neg (by decide +kernel)]; exact ⟨rfl, rfl⟩))
    (fun os started H enc _ => lifted os started H enc)
end Go.Proofs.Ytcgpnnmceijmjaa.stuffOpposite
namespace Go.Proofs.Ytcgpnnmceijmjaa
/-- The statement. -/
theorem stuffOpposite_holds : Rows.StuffOppositeSaid := stuffOpposite.over
#print axioms stuffOpposite_holds
end Go.Proofs.Ytcgpnnmceijmjaa
