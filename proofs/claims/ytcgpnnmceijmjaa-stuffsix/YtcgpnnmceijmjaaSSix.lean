/- StuffSix: six alike in a row that was laid between are found at the sixth, wherever they begin, for every number and width; no condition. -/
import Derived.Test.YtcgpnnmceijmjaaRows
import Derived.Test.YtcgpnnmceijmjaaSl
import Derived.Test.YtcgpnnmceijmjaaSm4
import Derived.Test.YtcgpnnmceijmjaaUn
import Derived.Test.YtcgpnnmceijmjaaRo
import Derived.WalkKit
import Derived.ProofKit
import Derived.OpenShut
import Derived.ShutString
namespace Go.Proofs.Ytcgpnnmceijmjaa.stuffSix
open Go.ChangeShapes Go.WideShapes Go.ChangeAt Go.RowKit
open Go.ChangeMaps (open_string shut_string)
set_option linter.unusedVariables false
theorem byte_row (l : List UInt8) (i : Nat) (h : i < (ByteArray.mk l.toArray).size) (c : UInt8) (hc : l[i]? = some c) : (ByteArray.mk l.toArray)[i] = c := by
  have hi : i < l.length := by rw [← size_str l]; exact h
  rw [List.getElem?_eq_getElem hi] at hc
  exact Option.some.inj hc
theorem row_snoc (bs : List Bool) (b : Bool) : (ByteArray.mk (Bm.row (bs ++ [b])).toArray) = ByteArray.mk (Bm.row bs).toArray ++ ByteArray.mk #[Bm.sign b] := by
  rw [show ByteArray.mk #[Bm.sign b] = ByteArray.mk [Bm.sign b].toArray from rfl, Bm.str_app]
  simp [Bm.row]
set_option maxRecDepth 100000 in
set_option maxHeartbeats 2000000 in
theorem walk (a0 : Int) (w0 : (Lit.int .u64 a0).wf = true) (a1 : Int) (w1 : (Lit.int .u8 a1).wf = true) (a2 : Int) (w2 : (Lit.int .u8 a2).wf = true) (w : World) :
    Calls Try.prog 6 #[.int .u64 a0, .int .u8 a1, .int .u8 a2] w fun e w' => e = .returned (.bool true) ∧ Below w.heap.size w w' := by
  obtain ⟨n, rfl, hn⟩ := u64_nat w0
  obtain ⟨c, rfl, hc⟩ := u8_nat w1
  obtain ⟨d, rfl, hd⟩ := u8_nat w2
  clear w0 w1 w2
  have hcl : Bm.clamp ((c : Int) % 65) = c % 65 := by unfold Bm.clamp; omega
  have HF : Hid (∀ w, Calls Try.prog 16 #[.int .u64 n, .int .i64 ((c : Int) % 65)] w fun e w' => e = .returned (.string ⟨(Bm.row (Bm.ofB n (c % 65))).toArray⟩) ∧ w' = w) := fun w => by
    have := refOf_any n ((c : Int) % 65) w hn
    rw [hcl] at this
    exact this
  have hlo : (Bm.ofB n (c % 65)).length ≤ 64 := by rw [Bm.length_ofB]; omega
  have HC : Hid (Sm.calm (0, false) (Sm.stuff (Bm.ofB n (c % 65)))) := Sm.calm_stuff _
  have hst := Sm.stuff_len_le (Bm.ofB n (c % 65))
  have hmo := Sm.most_le (Bm.ofB n (c % 65)).length
  clear hcl
  generalize Bm.ofB n (c % 65) = bs at *
  generalize hT : Sm.stuff bs = T at *
  have HT : Hid (Sm.stuff bs = T) := hT
  clear hT
  have hlr := Bm.length_row
  by_cases h0 : T.length = 0
  · have t0 : ((T.length : Int) == 0) = true := by rw [h0]; rfl
    clear h0
    go_enter Try.func6, Try.ntmps6
    go_wp2_with fail
    refine (known2_any _).mono ?_; rintro e w1 ⟨rfl, hb1⟩
    go_wp2_with fail
    refine (HF.out _).mono ?_; rintro e w2 ⟨rfl, rfl⟩
    go_wp2_with fail
    refine (stuff_row _ _ (by omega)).mono ?_; rintro e w3 ⟨rfl, hb3⟩
    rw [HT.out]
    go_wp2_with fail
    go_ret
    exact ⟨rfl, below_join hb1 hb3⟩
  · have t0 : ((T.length : Int) == 0) = false := beq_eq_false_iff_ne.2 (by omega)
    go_enter Try.func6, Try.ntmps6
    go_wp2_with fail
    refine (known2_any _).mono ?_; rintro e w1 ⟨rfl, hb1⟩
    go_wp2_with fail
    refine (HF.out _).mono ?_; rintro e w2 ⟨rfl, rfl⟩
    go_wp2_with fail
    refine (stuff_row _ _ (by omega)).mono ?_; rintro e w3 ⟨rfl, hb3⟩
    rw [HT.out]
    obtain ⟨S, hS⟩ : ∃ S, S = ByteArray.mk (Bm.row T).toArray := ⟨_, rfl⟩
    rw [← hS]
    have HS : Hid (S = ByteArray.mk (Bm.row T).toArray) := hS
    have hsz : S.size = T.length := by rw [hS, size_row]
    clear hS
    have hL : T.length - 1 < S.size := by omega
    obtain ⟨q, hq⟩ : ∃ q, q = Sm.run (0, false) T := ⟨_, rfl⟩
    have HQ : Hid (q = Sm.run (0, false) T) := hq
    have hq0 : 0 < q.1 := by rw [hq]; exact Sm.run_pos T (by omega)
    have hqL : q.1 ≤ T.length := by rw [hq]; have := Sm.run_le_len T (0, false); simpa using this
    have hq5 : q.1 ≤ 5 := by rw [hq]; exact Sm.calm_run HC.out
    have HR : Hid (∀ j (hj : T.length - 1 - j < S.size), j < q.1 → S[T.length - 1 - j] = Bm.sign q.2) := fun j hj h => by
      have e := Sm.row_end T j (by omega) q.2 (by rw [hq] at h ⊢; exact Sm.run_tail T j h)
      have hS := HS.out
      subst hS
      exact byte_row _ _ hj _ e
    have HN : Hid (∀ (hj : T.length - 1 - q.1 < S.size), q.1 < T.length → S[T.length - 1 - q.1] ≠ Bm.sign q.2) := fun hj h => by
      obtain ⟨b, h1, h2⟩ := Sm.run_stop T (by rw [← hq]; exact h)
      rw [← hq] at h1 h2
      have e := Sm.row_end T q.1 h b h1
      have hS := HS.out
      subst hS
      rw [byte_row _ _ hj _ e]
      intro e2
      apply h2
      have := congrArg Bm.isOne e2
      rwa [Bm.isOne_sign, Bm.isOne_sign] at this
    clear hq
    have HLs : Hid (S[T.length - 1] = Bm.sign q.2) := HR.out 0 (by omega) hq0
    go_wp2_with fail
    go_loop [9, 10] (fun u i => ∃ j : Nat, j ≤ q.1 ∧ u = .int .i64 j ∧ i = .int .i64 ((T.length : Int) - 1 - j)) (fun _ i => (intOf i + 1).toNat)
    case atStart => exact ⟨0, Nat.zero_le _, rfl, by go_num⟩
    case round =>
      obtain ⟨j, hj, rfl, rfl⟩ := hrel
      by_cases hlt : j < q.1
      · have hji : T.length - 1 - j < S.size := by omega
        have t1 : ((S[T.length - 1 - j].toNat : Int) == (S[T.length - 1].toNat : Int)) = true := by rw [HR.out j hji hlt, HLs.out]; simp
        go_wp2
        go_round
        case rel => exact ⟨j + 1, by omega, by go_num, by go_num⟩
        case measure => simp [intOf]; omega
      · obtain rfl : j = q.1 := by omega
        by_cases hqe : q.1 < T.length
        · have hji : T.length - 1 - q.1 < S.size := by omega
          have t1 : ((S[T.length - 1 - q.1].toNat : Int) == (S[T.length - 1].toNat : Int)) = false := by
            rw [HLs.out, beq_eq_false_iff_ne]
            intro e
            apply HN.out hji hqe
            apply UInt8.toNat_inj.1
            omega
          go_wp2_with fail
          have hconv : ∀ W : World, (convert 33 9 (.slice (some ⟨W.heap.size, 0, none⟩) 1 1)).run Try.prog (W.alloc (.cells #[.int .u8 (S[T.length - 1].toNat : Int)] 5)) = .ok (.string ⟨#[Bm.sign q.2]⟩) (W.alloc (.cells #[.int .u8 (S[T.length - 1].toNat : Int)] 5)) := fun W => by
            rw [HLs.out]
            exact Lw.run_conv_row (P := Try.prog) (l := [Bm.sign q.2]) (heap_alloc_new _ _) 33 5 9 Try.underlying33 Try.underlying5 Try.underlying9 0 1 1 (by simp) [Bm.sign q.2] rfl
          go_loopw [11, 12] (fun t i wr => ∃ m : Nat, q.1 + m ≤ 6 + d % 5 ∧ i = .int .i64 ((q.1 : Int) + m) ∧ t = .string ⟨(Bm.row (T ++ List.replicate m q.2)).toArray⟩ ∧ Below w.heap.size w wr) (fun _ i _ => 20 - (intOf i).toNat)
          case atStart => exact ⟨0, by omega, by go_num, by rw [HS.out]; simp, below_join hb1 hb3⟩
          case round =>
            obtain ⟨m, hm, rfl, rfl, hb⟩ := hrel
            by_cases hlt2 : q.1 + m < 6 + d % 5
            · have hbs := hb.size
              have HM : Hid (ByteArray.mk (Bm.row (T ++ List.replicate (m + 1) q.2)).toArray = ByteArray.mk (Bm.row (T ++ List.replicate m q.2)).toArray ++ ByteArray.mk #[Bm.sign q.2]) := by
                rw [← row_snoc, List.append_assoc, ← List.replicate_succ']
                rfl
              have hlT : (T ++ List.replicate m q.2).length ≤ 200 := by rw [List.length_append, List.length_replicate]; omega
              generalize T ++ List.replicate m q.2 = U at *
              go_wp2
              go_roundw
              case rel => exact ⟨m + 1, by omega, by go_num, by rw [HM.out], hb.alloc hbs _⟩
              case measure => simp [intOf]; omega
            · have HU : Hid ((Sm.unstuff (T ++ List.replicate m q.2)).2 = ((T.length + 5 - q.1 : Nat) : Int)) := Sm.un_six T q.2 q.1 m HC.out (by rw [← HQ.out]) hq0 (by omega)
              have hV : (Sm.unstuff (T ++ List.replicate m q.2)).2 = (T.length : Int) + 5 - (q.1 : Int) := by rw [HU.out]; omega
              have HV : Hid (Sm.next (T ++ List.replicate m q.2) = -2) := Sm.next_six _ (by rw [HU.out]; omega)
              have hlT : (T ++ List.replicate m q.2).length ≤ 200 := by rw [List.length_append, List.length_replicate]; omega
              clear hconv HU
              generalize T ++ List.replicate m q.2 = U at *
              go_wp2_with fail
              refine (unstuff_row U _ (by omega)).mono ?_; rintro e w4 ⟨rfl, hb4⟩
              go_wp2_with fail
              refine (next_row U _ (by omega)).mono ?_; rintro e w5 ⟨rfl, hb5⟩
              rw [HV.out]
              go_wp2_with fail
              go_ret
              exact ⟨rfl, below_join (below_join hb hb4) hb5⟩
        · go_wp2_with fail
          have hconv : ∀ W : World, (convert 33 9 (.slice (some ⟨W.heap.size, 0, none⟩) 1 1)).run Try.prog (W.alloc (.cells #[.int .u8 (S[T.length - 1].toNat : Int)] 5)) = .ok (.string ⟨#[Bm.sign q.2]⟩) (W.alloc (.cells #[.int .u8 (S[T.length - 1].toNat : Int)] 5)) := fun W => by
            rw [HLs.out]
            exact Lw.run_conv_row (P := Try.prog) (l := [Bm.sign q.2]) (heap_alloc_new _ _) 33 5 9 Try.underlying33 Try.underlying5 Try.underlying9 0 1 1 (by simp) [Bm.sign q.2] rfl
          go_loopw [11, 12] (fun t i wr => ∃ m : Nat, q.1 + m ≤ 6 + d % 5 ∧ i = .int .i64 ((q.1 : Int) + m) ∧ t = .string ⟨(Bm.row (T ++ List.replicate m q.2)).toArray⟩ ∧ Below w.heap.size w wr) (fun _ i _ => 20 - (intOf i).toNat)
          case atStart => exact ⟨0, by omega, by go_num, by rw [HS.out]; simp, below_join hb1 hb3⟩
          case round =>
            obtain ⟨m, hm, rfl, rfl, hb⟩ := hrel
            by_cases hlt2 : q.1 + m < 6 + d % 5
            · have hbs := hb.size
              have HM : Hid (ByteArray.mk (Bm.row (T ++ List.replicate (m + 1) q.2)).toArray = ByteArray.mk (Bm.row (T ++ List.replicate m q.2)).toArray ++ ByteArray.mk #[Bm.sign q.2]) := by
                rw [← row_snoc, List.append_assoc, ← List.replicate_succ']
                rfl
              have hlT : (T ++ List.replicate m q.2).length ≤ 200 := by rw [List.length_append, List.length_replicate]; omega
              generalize T ++ List.replicate m q.2 = U at *
              go_wp2
              go_roundw
              case rel => exact ⟨m + 1, by omega, by go_num, by rw [HM.out], hb.alloc hbs _⟩
              case measure => simp [intOf]; omega
            · have HU : Hid ((Sm.unstuff (T ++ List.replicate m q.2)).2 = ((T.length + 5 - q.1 : Nat) : Int)) := Sm.un_six T q.2 q.1 m HC.out (by rw [← HQ.out]) hq0 (by omega)
              have hV : (Sm.unstuff (T ++ List.replicate m q.2)).2 = (T.length : Int) + 5 - (q.1 : Int) := by rw [HU.out]; omega
              have HV : Hid (Sm.next (T ++ List.replicate m q.2) = -2) := Sm.next_six _ (by rw [HU.out]; omega)
              have hlT : (T ++ List.replicate m q.2).length ≤ 200 := by rw [List.length_append, List.length_replicate]; omega
              clear hconv HU
              generalize T ++ List.replicate m q.2 = U at *
              go_wp2_with fail
              refine (unstuff_row U _ (by omega)).mono ?_; rintro e w4 ⟨rfl, hb4⟩
              go_wp2_with fail
              refine (next_row U _ (by omega)).mono ?_; rintro e w5 ⟨rfl, hb5⟩
              rw [HV.out]
              go_wp2_with fail
              go_ret
              exact ⟨rfl, below_join (below_join hb hb4) hb5⟩
theorem own : ownKnob Try.prog.godebug = none := by kernel_rfl
set_option maxRecDepth 100000 in
theorem lifted (os : Os) (started : os.Started) (H : Type) (enc : TypeId × Value → H) :
    ReturnsInHanded {} Try.checked os 6 .any (Rows.stuffSixSpec.pre6 enc Try.prog Try.f6 Rows.stuffSixRow.domain false) (Rows.stuffSixSpec.post enc Try.prog Try.f6 false true false false) := by
  refine returnsInHanded_of_change (C := Try.checked) own started (by kernel_rfl) Try.func6
    (ChangeSpec.witness6 (enc := enc) (C := Try.checked) false ⟨#[], #[.int .u64 0, .int .u8 0, .int .u8 0], []⟩ 8 (by kernel_rfl) (by kernel_rfl) (by kernel_rfl) (by kernel_rfl)) ?_
  intro W base args ds gs before hval0 hW hcnd _
  have hval : ∀ (j : Nat) t v, Try.f6.params[j]? = some t → args[j]? = some v → Value.okWide Try.prog W .any base t v := hval0
  have hW' := hW
  obtain ⟨p, q, hA0, hV, rfl, hfz, hnd⟩ := hW
  have hA : DataW.TrodAll enc Try.prog W 0 (fun _ => true) true Try.f6.params.toList args.toList ds p := hA0
  rw [Try.params6] at hA hval
  obtain ⟨v0, vs0, d0, ds0, p0, q0, hargs, rfl, rfl, h0, r0⟩ := trodAll_cons hA
  obtain ⟨v1, vs1, d1, ds1, p1, q1, rfl, rfl, rfl, h1, r1⟩ := trodAll_cons r0
  obtain ⟨v2, vs2, d2, ds2, p2, q2, rfl, rfl, rfl, h2, r2⟩ := trodAll_cons r1
  obtain ⟨rfl, rfl, rfl⟩ := trodAll_nil r2
  obtain rfl : args = #[v0, v1, v2] := by cases args; simp_all
  obtain ⟨rfl, rfl⟩ := trodVars_none hV
  obtain ⟨a0, rfl, rfl, rfl, w0⟩ := open_int Try.underlying28 (hval 0 28 v0 rfl rfl) h0
  obtain ⟨a1, rfl, rfl, rfl, w1⟩ := open_int Try.underlying5 (hval 1 5 v1 rfl rfl) h1
  obtain ⟨a2, rfl, rfl, rfl, w2⟩ := open_int Try.underlying5 (hval 2 5 v2 rfl rfl) h2
  clear hA0 hval0
  refine (walk a0 w0 a1 w1 a2 w2 W).mono fun e W' ⟨he, bel⟩ => ?_
  subst he
  exact ⟨_, rfl, _, _, _, [], _, [], hW', trodAll_mk1 (shut_bool Try.underlying4 _), (trodAll_cons_mk (shut_int Try.underlying28 w0) (trodAll_cons_mk (shut_int Try.underlying5 w1) (trodAll_cons_mk (shut_int Try.underlying5 w2) trodAll_mk0))), rfl, bel.frame _, fun h => by cases h⟩
theorem over : Rows.stuffSixRow.holds Try.pinned (OpenSpec.ofChange Rows.stuffSixSpec) :=
  OpenClaim.holds_of_wide 6 Try.f6 rfl rfl rfl rfl rfl rfl rfl ⟨rfl, rfl, rfl, rfl, rfl⟩ rfl rfl rfl rfl rfl (by kernel_rfl) Try.func6 (by kernel_rfl)
    (of_decide_eq_true (by kernel_rfl)) (by unfold Func.isWrapper; first | (rw [if_pos (by decide +kernel)]; kernel_rfl) | (rw [if_neg (by decide +kernel)]; exact ⟨rfl, rfl⟩))
    (fun os started H enc _ => lifted os started H enc)
end Go.Proofs.Ytcgpnnmceijmjaa.stuffSix
namespace Go.Proofs.Ytcgpnnmceijmjaa
/-- The statement. -/
theorem stuffSix_holds : Rows.StuffSixSaid := stuffSix.over
#print axioms stuffSix_holds
end Go.Proofs.Ytcgpnnmceijmjaa
