/- StuffQuiet: a row in which no five are alike, made of 01 and 011, is as it was, laid between and taken away, for every slice of at most 100 bools (longer ones are let by); no condition. -/
import Derived.Test.YtcgpnnmceijmjabRows
import Derived.Test.YtcgpnnmceijmjabSl
import Derived.Test.YtcgpnnmceijmjabSm4
import Derived.WalkKit
import Derived.ProofKit
import Derived.OpenShut
import Derived.ShutString
import Derived.Deep.Grids
namespace Go.Proofs.Ytcgpnnmceijmjab.stuffQuiet
open Go.ChangeShapes Go.WideShapes Go.ChangeAt Go.RowKit
open Go.ChangeMaps (open_string shut_string)
set_option linter.unusedVariables false
/-- What the walk is told of a slice of bools that came in. -/
def IsBools (w : World) (a : Option Addr) (len cap : Nat) (B : Nat → Bool) : Prop :=
  (a = none ∧ len = 0 ∧ cap = 0) ∨ ∃ x, a = some x ∧ len ≤ cap ∧ cap ≤ maxLen ∧ ∀ i, i < cap → w.cell? (x.add i) = some (.bool (B i))
def pat (B : Nat → Bool) (k : Nat) : List Bool := Sm.quiet ((List.range k).map B)
theorem pat_succ (B : Nat → Bool) (k : Nat) : pat B (k + 1) = pat B k ++ (if B k then [false, true, true] else [false, true]) := by
  unfold pat Sm.quiet; rw [List.range_succ, List.map_append, List.flatMap_append]; simp
theorem length_pat (B : Nat → Bool) (k : Nat) : (pat B k).length ≤ 3 * k := by
  induction k with
  | zero => simp [pat, Sm.quiet]
  | succ k ih => rw [pat_succ, List.length_append]; split <;> simp <;> omega
theorem str2 (bs : List Bool) : (ByteArray.mk (Bm.row bs).toArray ++ ByteArray.mk #[48, 49]) = ByteArray.mk (Bm.row (bs ++ [false, true])).toArray := by
  rw [show ByteArray.mk #[48, 49] = ByteArray.mk [48, 49].toArray from rfl, Bm.str_app]; simp [Bm.row]; exact ⟨rfl, rfl⟩
theorem str3 (bs : List Bool) : (ByteArray.mk (Bm.row (bs ++ [false, true])).toArray ++ ByteArray.mk #[49]) = ByteArray.mk (Bm.row (bs ++ [false, true, true])).toArray := by
  rw [show ByteArray.mk #[49] = ByteArray.mk [49].toArray from rfl, Bm.str_app]; simp [Bm.row]; rfl
set_option maxRecDepth 100000 in
set_option maxHeartbeats 1000000 in
theorem row (b off len cap : Nat) (B : Nat → Bool) (hl : len ≤ 100) (w : World) (hcell : ∀ i, i < len → w.cell? ⟨b, off + i, none⟩ = some (.bool (B i))) :
    Calls Try.prog 3 #[.slice (some ⟨b, off, none⟩) len cap] w fun e w' => e = .returned (.bool true) ∧ Below w.heap.size w w' := by
  go_enter Try.func3, Try.ntmps3
  go_wp2_with fail
  refine (known2_any _).mono ?_; rintro e w1 ⟨rfl, hb1⟩
  have hc1 : ∀ i, i < len → w1.cell? ⟨b, off + i, none⟩ = some (.bool (B i)) := fun i hi => by
    have h := hcell i hi
    rw [hb1.cell (p := ⟨b, off + i, none⟩) (block_lt_of_cell h)]
    exact h
  have HCe : Hid (_) := hc1
  clear hcell hc1
  have hlr := Bm.length_row
  go_wp2_with fail
  go_loop [3, 4] (fun t i => ∃ k : Nat, k ≤ len ∧ i = .int .i64 k ∧ t = .string ⟨(Bm.row (pat B k)).toArray⟩) (fun _ i => len - (intOf i).toNat)
  case atStart => exact ⟨0, Nat.zero_le _, rfl, rfl⟩
  case round =>
    obtain ⟨k, hk, rfl, rfl⟩ := hrel
    have hlp := length_pat B k
    by_cases hlt : k < len
    · have hce := HCe.out k hlt
      have HP : Hid (_) := pat_succ B k
      have hs2 := str2 (pat B k)
      have hs3 := str3 (pat B k)
      cases hB : B k
      · rw [hB] at hce
        generalize pat B k = U at *
        go_wp2
        go_round
        case rel => exact ⟨k + 1, by omega, by go_num, by rw [HP.out, hB]; rfl⟩
        case measure => simp [intOf]; omega
      · rw [hB] at hce
        generalize pat B k = U at *
        go_wp2
        go_round
        case rel => exact ⟨k + 1, by omega, by go_num, by rw [HP.out, hB]; rfl⟩
        case measure => simp [intOf]; omega
    · have hlow : Sm.low (0, false) (pat B k) := Sm.low_quiet0 _
      have HU : Hid (Sm.unstuff (pat B k) = (pat B k, -1)) := Sm.unB_low _ _ _ hlow
      have HS : Hid (Sm.stuff (pat B k) = pat B k) := Sm.stB_low _ _ hlow
      have HN : Hid (Sm.next (pat B k) = -1) := Sm.next_low _ hlow
      clear hlow
      generalize pat B k = U at *
      go_wp2_with fail
      refine (unstuff_row U _ (by omega)).mono ?_; rintro e w2 ⟨rfl, hb2⟩
      rw [HU.out]
      go_wp2_with fail
      refine (stuff_row U _ (by omega)).mono ?_; rintro e w3 ⟨rfl, hb3⟩
      rw [HS.out]
      go_wp2_with fail
      refine (next_row U _ (by omega)).mono ?_; rintro e w4 ⟨rfl, hb4⟩
      rw [HN.out]
      go_wp2_with fail
      go_ret
      exact ⟨rfl, below_join (below_join (below_join hb1 hb2) hb3) hb4⟩
set_option maxRecDepth 100000 in
set_option maxHeartbeats 1000000 in
theorem none0 (a : Option Addr) (cap : Nat) (w : World) :
    Calls Try.prog 3 #[.slice a 0 cap] w fun e w' => e = .returned (.bool true) ∧ Below w.heap.size w w' := by
  have HU : Hid (Sm.unstuff [] = ([], -1)) := rfl
  have HS : Hid (Sm.stuff [] = []) := rfl
  have HN : Hid (Sm.next [] = -1) := by show _ = _; decide
  go_enter Try.func3, Try.ntmps3
  go_wp2_with fail
  refine (known2_any _).mono ?_; rintro e w1 ⟨rfl, hb1⟩
  go_wp2_with fail
  refine wp_loop_rounds 1 ?_
  rw [rounds_succ]
  go_wp2_with fail
  refine (unstuff_row [] _ (by simp)).mono ?_; rintro e w2 ⟨rfl, hb2⟩
  rw [HU.out]
  go_wp2_with fail
  refine (stuff_row [] _ (by simp)).mono ?_; rintro e w3 ⟨rfl, hb3⟩
  rw [HS.out]
  go_wp2_with fail
  refine (next_row [] _ (by simp)).mono ?_; rintro e w4 ⟨rfl, hb4⟩
  rw [HN.out]
  go_wp2_with fail
  go_ret
  exact ⟨rfl, below_join (below_join (below_join hb1 hb2) hb3) hb4⟩
set_option maxRecDepth 100000 in
theorem long (a : Option Addr) (len cap : Nat) (h : 100 < len) (hm : len ≤ maxLen) (w : World) :
    Calls Try.prog 3 #[.slice a len cap] w fun e w' => e = .returned (.bool true) ∧ Below w.heap.size w w' := by
  unfold maxLen at hm
  go_enter Try.func3, Try.ntmps3
  go_wp2_with fail
  refine (known2_any _).mono ?_; rintro e w1 ⟨rfl, hb1⟩
  go_wp2_with fail
  go_ret
  exact ⟨rfl, hb1⟩
theorem walk (s0 : Option Addr) (len0 cap0 : Nat) (a0 : Nat → Bool) {w : World} (w0 : IsBools w s0 len0 cap0 a0) (w' : World) (hw : w' = w) :
    Calls Try.prog 3 #[.slice s0 len0 cap0] w' fun e w'' => e = .returned (.bool true) ∧ Below w'.heap.size w' w'' := by
  subst hw
  rcases w0 with ⟨rfl, rfl, rfl⟩ | ⟨x, rfl, hl, hm, hcell⟩
  · exact none0 _ _ _
  · by_cases h1 : 100 < len0
    · exact long _ _ _ h1 (by omega) _
    · by_cases h0 : len0 = 0
      · subst h0; exact none0 _ _ _
      · obtain ⟨b, off, spot⟩ := x
        have hspot : spot = none := by simpa [Addr.add] using World.cell?_spot (hcell 0 (by omega))
        subst hspot
        exact row b off len0 cap0 a0 (by omega) _ (fun i hi => by rw [← Go.WideShapes.add_plain]; exact hcell i (by omega))
theorem laidOut : laidOutB Try.prog = true := by kernel_rfl
theorem own : ownKnob Try.prog.godebug = none := by kernel_rfl
set_option maxRecDepth 100000 in
theorem lifted (os : Os) (started : os.Started) (H : Type) (enc : TypeId × Value → H) :
    ReturnsInHanded {} Try.checked os 3 .any (Rows.stuffQuietSpec.pre6 enc Try.prog Try.f3 Rows.stuffQuietRow.domain false) (Rows.stuffQuietSpec.post enc Try.prog Try.f3 false true false false) := by
  refine returnsInHanded_of_change (C := Try.checked) own started (by kernel_rfl) Try.func3
    (ChangeSpec.witness6 (enc := enc) (C := Try.checked) false ⟨#[], #[.slice none 0 0], []⟩ 8 (by kernel_rfl) (by kernel_rfl) (by kernel_rfl) (by kernel_rfl)) ?_
  intro W base args ds gs before hval0 hW hcnd _
  have hval : ∀ (j : Nat) t v, Try.f3.params[j]? = some t → args[j]? = some v → Value.okWide Try.prog W .any base t v := hval0
  have hW' := hW
  obtain ⟨p, q, hA0, hV, rfl, hfz, hnd⟩ := hW
  have hA : DataW.TrodAll enc Try.prog W 0 (fun _ => true) true Try.f3.params.toList args.toList ds p := hA0
  rw [Try.params3] at hA hval
  obtain ⟨v0, vs0, d0, ds0, p0, q0, hargs, rfl, rfl, h0, r0⟩ := trodAll_cons hA
  obtain ⟨rfl, rfl, rfl⟩ := trodAll_nil r0
  obtain rfl : args = #[v0] := by cases args; simp_all
  obtain ⟨rfl, rfl⟩ := trodVars_none hV
  obtain ⟨s0, len0, cap0, rfl⟩ := okWide_slice Try.underlying22 (hval 0 22 v0 rfl rfl)
  have k0 := h0
  have lt0 : ∀ x ∈ p0, x.block < W.heap.size := by obtain ⟨m, hm⟩ := k0; exact DataW.trod_lt m _ _ _ hm
  obtain ⟨a0, w0⟩ : ∃ B, IsBools W s0 len0 cap0 B := by
    obtain ⟨fuel, hf⟩ := h0
    rcases Deep.open_bools Try.underlying22 Try.underlying4 (by kernel_rfl) hf with ⟨hcs, _⟩ | ⟨x, l, c, B, hcs, _, hl, hm, _, hcell⟩
    · simp [Value.cells] at hcs
      obtain ⟨rfl, rfl, rfl⟩ := hcs
      exact ⟨fun _ => false, .inl ⟨rfl, rfl, rfl⟩⟩
    · simp [Value.cells] at hcs
      obtain ⟨rfl, rfl, rfl⟩ := hcs
      exact ⟨B, .inr ⟨_, rfl, hl, hm, hcell⟩⟩
  clear hA0 hval0
  refine (walk s0 len0 cap0 a0 w0 W rfl).mono fun e W' ⟨he, bel⟩ => ?_
  subst he
  exact ⟨_, rfl, _, _, _, [], _, [], hW', trodAll_mk1 (shut_bool Try.underlying4 _), (trodAll_cons_mk (Below.trod laidOut (by kernel_rfl) (of_decide_eq_true (by kernel_rfl)) k0 bel lt0) trodAll_mk0), rfl, bel.frame _, fun h => by cases h⟩
theorem over : Rows.stuffQuietRow.holds Try.pinned (OpenSpec.ofChange Rows.stuffQuietSpec) :=
  OpenClaim.holds_of_wide 3 Try.f3 rfl rfl rfl rfl rfl rfl rfl ⟨rfl, rfl, rfl, rfl, rfl⟩ rfl rfl rfl rfl rfl (by kernel_rfl) Try.func3 (by kernel_rfl)
    (of_decide_eq_true (by kernel_rfl)) (by unfold Func.isWrapper; first | (rw [if_pos (by decide +kernel)]; kernel_rfl) | (rw [if_neg (by decide +kernel)]; exact ⟨rfl, rfl⟩))
    (fun os started H enc _ => lifted os started H enc)
end Go.Proofs.Ytcgpnnmceijmjab.stuffQuiet
namespace Go.Proofs.Ytcgpnnmceijmjab
/-- The statement. -/
theorem stuffQuiet_holds : Rows.StuffQuietSaid := stuffQuiet.over
#print axioms stuffQuiet_holds
end Go.Proofs.Ytcgpnnmceijmjab
