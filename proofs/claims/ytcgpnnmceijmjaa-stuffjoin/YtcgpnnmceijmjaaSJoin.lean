/- StuffJoin: of every two texts of at most 100 bytes (longer ones are let by) what is laid between the first stands ahead in what is laid between both; no condition. -/
import Derived.Test.YtcgpnnmceijmjaaRows
import Derived.Test.YtcgpnnmceijmjaaSl
import Derived.WalkKit
import Derived.ProofKit
import Derived.OpenShut
import Derived.ShutString
namespace Go.Proofs.Ytcgpnnmceijmjaa.stuffJoin
open Go.ChangeShapes Go.WideShapes Go.ChangeAt Go.RowKit
open Go.ChangeMaps (open_string shut_string)
set_option linter.unusedVariables false
set_option maxRecDepth 100000 in
set_option maxHeartbeats 1000000 in
theorem walk (a0 : ByteArray) (w0 : a0.size ≤ maxLen) (a1 : ByteArray) (w1 : a1.size ≤ maxLen) (w : World) :
    Calls Try.prog 7 #[.string a0, .string a1] w fun e w' => e = .returned (.bool true) ∧ Below w.heap.size w w' := by
  have hm0 := w0
  have hm1 := w1
  unfold maxLen at hm0 hm1
  by_cases hlen : 100 < a0.size
  · go_enter Try.func7, Try.ntmps7
    go_wp2_with fail
    refine (known2_any _).mono ?_; rintro e w1 ⟨rfl, hb1⟩
    go_wp2_with fail
    go_ret
    exact ⟨rfl, hb1⟩
  · by_cases hlen1 : 100 < a1.size
    · go_enter Try.func7, Try.ntmps7
      go_wp2_with fail
      refine (known2_any _).mono ?_; rintro e w1 ⟨rfl, hb1⟩
      go_wp2_with fail
      go_ret
      exact ⟨rfl, hb1⟩
    · have hl0 : (Bm.read a0.data.toList).length = a0.size := by rw [Bm.length_read]; simp
      have hl1 : (Bm.read a1.data.toList).length = a1.size := by rw [Bm.length_read]; simp
      have HC : Hid (Bm.read (a0 ++ a1).data.toList = Bm.read a0.data.toList ++ Bm.read a1.data.toList) := by
        show _ = _
        unfold Bm.read
        rw [ByteArray.data_append, Array.toList_append, List.map_append]
      have HP : Hid (∃ t, Sm.stuff (Bm.read a0.data.toList ++ Bm.read a1.data.toList) = Sm.stuff (Bm.read a0.data.toList) ++ t) := ⟨_, Sm.stB_append _ _ _⟩
      have hle := Sm.stuff_len_le (Bm.read a0.data.toList ++ Bm.read a1.data.toList)
      rw [List.length_append, hl0, hl1] at hle
      obtain ⟨t, ht⟩ := HP.out
      have HT : Hid (_) := ht
      have hmost : Sm.most (a0.size + a1.size) ≤ 1000 := by unfold Sm.most; split <;> omega
      rw [ht] at hle
      rw [List.length_append] at hle
      clear HP ht hl0 hl1
      have hsz : (a0 ++ a1).size ≤ 200 := by rw [ByteArray.size_append]; omega
      go_enter Try.func7, Try.ntmps7
      go_wp2_with fail
      refine (known2_any _).mono ?_; rintro e w1 ⟨rfl, hb1⟩
      go_wp2_with fail
      refine (stuff_any a0 _ (by omega)).mono ?_; rintro e w2 ⟨rfl, hb2⟩
      go_wp2_with fail
      refine (stuff_any (a0 ++ a1) _ (by omega)).mono ?_; rintro e w3 ⟨rfl, hb3⟩
      rw [HC.out, HT.out]
      generalize Sm.stuff (Bm.read a0.data.toList) = A at *
      have hlr := Bm.length_row
      have hex : (ByteArray.mk (Bm.row (A ++ t)).toArray).extract 0 A.length = ByteArray.mk (Bm.row A).toArray := by
        apply ByteArray.ext
        apply Array.toList_inj.1
        rw [Lib.extract_data]
        show List.take (A.length - 0) (List.drop 0 (Bm.row (A ++ t))) = Bm.row A
        rw [List.drop_zero, Nat.sub_zero]
        unfold Bm.row
        rw [List.map_append, List.take_left' (by simp)]
      go_wp2_with fail
      refine (most_nat (a0.size + a1.size) _ (by omega) (by omega) _).mono ?_; rintro e w4 ⟨rfl, rfl⟩
      clear hex
      go_wp2_with fail
      go_ret
      refine ⟨?_, below_join (below_join hb1 hb2) hb3⟩
      exact ret_bool (a := decide ((A.length : Int) + (t.length : Int) ≤ (Sm.most (a0.size + a1.size) : Int))) (decide_eq_true (by omega))
theorem own : ownKnob Try.prog.godebug = none := by kernel_rfl
set_option maxRecDepth 100000 in
theorem lifted (os : Os) (started : os.Started) (H : Type) (enc : TypeId × Value → H) :
    ReturnsInHanded {} Try.checked os 7 .any (Rows.stuffJoinSpec.pre6 enc Try.prog Try.f7 Rows.stuffJoinRow.domain false) (Rows.stuffJoinSpec.post enc Try.prog Try.f7 false true false false) := by
  refine returnsInHanded_of_change (C := Try.checked) own started (by kernel_rfl) Try.func7
    (ChangeSpec.witness6 (enc := enc) (C := Try.checked) false ⟨#[], #[.string ByteArray.empty, .string ByteArray.empty], []⟩ 8 (by kernel_rfl) (by kernel_rfl) (by kernel_rfl) (by kernel_rfl)) ?_
  intro W base args ds gs before hval0 hW hcnd _
  have hval : ∀ (j : Nat) t v, Try.f7.params[j]? = some t → args[j]? = some v → Value.okWide Try.prog W .any base t v := hval0
  have hW' := hW
  obtain ⟨p, q, hA0, hV, rfl, hfz, hnd⟩ := hW
  have hA : DataW.TrodAll enc Try.prog W 0 (fun _ => true) true Try.f7.params.toList args.toList ds p := hA0
  rw [Try.params7] at hA hval
  obtain ⟨v0, vs0, d0, ds0, p0, q0, hargs, rfl, rfl, h0, r0⟩ := trodAll_cons hA
  obtain ⟨v1, vs1, d1, ds1, p1, q1, rfl, rfl, rfl, h1, r1⟩ := trodAll_cons r0
  obtain ⟨rfl, rfl, rfl⟩ := trodAll_nil r1
  obtain rfl : args = #[v0, v1] := by cases args; simp_all
  obtain ⟨rfl, rfl⟩ := trodVars_none hV
  obtain ⟨a0, rfl, rfl, rfl, w0⟩ := open_string Try.underlying9 (hval 0 9 v0 rfl rfl) h0
  obtain ⟨a1, rfl, rfl, rfl, w1⟩ := open_string Try.underlying9 (hval 1 9 v1 rfl rfl) h1
  clear hA0 hval0
  refine (walk a0 w0 a1 w1 W).mono fun e W' ⟨he, bel⟩ => ?_
  subst he
  exact ⟨_, rfl, _, _, _, [], _, [], hW', trodAll_mk1 (shut_bool Try.underlying4 _), (trodAll_cons_mk (shut_string Try.underlying9 w0) (trodAll_cons_mk (shut_string Try.underlying9 w1) trodAll_mk0)), rfl, bel.frame _, fun h => by cases h⟩
theorem over : Rows.stuffJoinRow.holds Try.pinned (OpenSpec.ofChange Rows.stuffJoinSpec) :=
  OpenClaim.holds_of_wide 7 Try.f7 rfl rfl rfl rfl rfl rfl rfl ⟨rfl, rfl, rfl, rfl, rfl⟩ rfl rfl rfl rfl rfl (by kernel_rfl) Try.func7 (by kernel_rfl)
    (of_decide_eq_true (by kernel_rfl)) (by unfold Func.isWrapper; first | (rw [if_pos (by decide +kernel)]; kernel_rfl) | (rw [if_neg (by decide +kernel)]; exact ⟨rfl, rfl⟩))
    (fun os started H enc _ => lifted os started H enc)
end Go.Proofs.Ytcgpnnmceijmjaa.stuffJoin
namespace Go.Proofs.Ytcgpnnmceijmjaa
/-- The statement. -/
theorem stuffJoin_holds : Rows.StuffJoinSaid := stuffJoin.over
#print axioms stuffJoin_holds
end Go.Proofs.Ytcgpnnmceijmjaa
