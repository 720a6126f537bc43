/- Package level, landed: a table of what each level leaves, the greatest counter, the spread. -/
import Derived.Test.YtfempghbkchepaaDoorX19
import Derived.Test.YtfempghbkchepaaDoorA20
import Derived.Test.YtfempghbkchepaaDoorTg
namespace Go.Proofs.YtfempghbkchepaaDoor
open Go.RowKit Go.WideShapes Go.ChangeShapes Go.ChangeAt
set_option linter.unusedVariables false
theorem hi_seven {s : List Nat} (h : Q19.Ok s) : Q19.hi s = 7 ↔ 7 ∈ s := by
  constructor
  · intro e
    by_cases h7 : 7 ∈ s
    · exact h7
    · have := Q19.hi_le (l := s) (b := 6) (fun y hy => by
        have h1 := h.le y hy
        have h2 : y ≠ 7 := fun e => h7 (e ▸ hy)
        omega)
      omega
  · intro h7
    have h1 := Q19.mem_hi h7
    have h2 := Q19.hi_le h.le
    omega
set_option maxRecDepth 100000 in
set_option maxHeartbeats 4000000 in
theorem lv_index (w : World) (g : Nat) (s : List Nat) (h : RowT 3 w g (sA s)) (hl : s.length ≤ 12) : Calls Tryd.prog 22 #[.slice (some ⟨g, 0, none⟩) s.length s.length, .int .i64 7] w fun e w' => ∃ r : Int, e = .returned (.int .i64 r) ∧ (0 ≤ r ↔ 7 ∈ s) ∧ w' = w := by
  have HS : Hid (∀ i x, s[i]? = some x → w.cell? ⟨g, i, none⟩ = some (.int .i64 (x : Nat))) := fun i x hx => h.c i _ (sL_at hx)
  have HG : Hid (∀ i, i < s.length → ∃ x, s[i]? = some x) := fun i hi => ⟨_, List.getElem?_eq_getElem hi⟩
  have HG2 : Hid (∀ (i : Nat) x, s[i]? = some x → i < s.length) := fun i x hi => (List.getElem?_eq_some_iff.1 hi).1
  clear h
  generalize s.length = n at HG HG2 hl ⊢
  go_enter Tryd.func22, Tryd.ntmps22
  go_wp2_with fail
  go_loopw [8] (fun i wr => ∃ k : Nat, k ≤ n ∧ i = .int .i64 k ∧ wr = w ∧ Hid (∀ (j : Nat) y, j < k → s[j]? = some y → (y == 7) = false)) (fun i _ => n - (intOf i).toNat)
  case atStart => exact ⟨0, Nat.zero_le _, rfl, rfl, fun j y h => absurd h (Nat.not_lt_zero _)⟩
  case round =>
    obtain ⟨k, hk, rfl, rfl, HF⟩ := hrel
    by_cases hlt : k < n
    · obtain ⟨x, hx⟩ := HG.out k hlt
      have hc := HS.out k x hx
      clear HS HG HG2
      cases hw : (x == 7)
      · have HF2 : Hid (∀ (j : Nat) y, j < k + 1 → s[j]? = some y → (y == 7) = false) := Mx.upto_succ (p := fun y => y == 7) hx HF.out hw
        have hw2 : ((7 : Int) == (x : Int)) = false := beq_eq_false_iff_ne.2 (fun e => by have := beq_eq_false_iff_ne.1 hw; omega)
        have hw3 : ¬ ((7 : Int) = (x : Int)) := fun e => by have := beq_eq_false_iff_ne.1 hw; omega
        clear hx HF hw
        go_wp2
        first
          | exact ⟨⟨k + 1, by omega, by simp, (by first | rfl | trivial), HF2⟩, by simp [intOf]; omega⟩
          | (go_roundw; (case rel => exact ⟨k + 1, by omega, rfl, rfl, HF2⟩); (case measure => simp only [intOf]; omega))
      · obtain rfl : x = 7 := beq_iff_eq.1 hw
        have HM : Hid (7 ∈ s) := List.mem_of_getElem? hx
        clear hx HF hw
        go_wp2
        go_ret
        exact ⟨_, rfl, ⟨fun _ => HM.out, fun _ => by omega⟩, rfl⟩
    · have HM : Hid (¬ 7 ∈ s) := fun h7 => by
        obtain ⟨j, hj⟩ := List.mem_iff_getElem?.1 h7
        have := HF.out j 7 (by have := HG2.out j 7 hj; omega) hj
        simp at this
      clear HG HG2 HS HF
      go_wp2
      go_ret
      exact ⟨_, rfl, ⟨fun h => absurd h (by decide), fun h => absurd h HM.out⟩, rfl⟩
set_option maxRecDepth 100000 in
set_option maxHeartbeats 4000000 in
theorem lv_has (w : World) (g : Nat) (s : List Nat) (h : RowT 3 w g (sA s)) (hl : s.length ≤ 12) : Calls Tryd.prog 16 #[.slice (some ⟨g, 0, none⟩) s.length s.length, .int .i64 7] w fun e w' => e = .returned (.bool (decide (7 ∈ s))) ∧ w' = w := by
  have HI : Hid (Calls Tryd.prog 22 #[.slice (some ⟨g, 0, none⟩) s.length s.length, .int .i64 7] w fun e w' => ∃ r : Int, e = .returned (.int .i64 r) ∧ (0 ≤ r ↔ 7 ∈ s) ∧ w' = w) := lv_index w g s h hl
  obtain ⟨d, hd⟩ : ∃ d, decide (7 ∈ s) = d := ⟨_, rfl⟩
  have HD : Hid (decide (7 ∈ s) = d) := hd
  rw [hd]
  generalize s.length = n at *
  clear h hl hd
  go_enter Tryd.func16, Tryd.ntmps16
  go_wp2_with fail
  refine HI.out.mono ?_
  rintro e w1 ⟨r, rfl, hr, rfl⟩
  clear HI
  cases d
  · have h0 : ¬ (0 ≤ r) := fun h => absurd (hr.1 h) (of_decide_eq_false HD.out)
    clear hr
    go_wp2
    go_ret
    exact ⟨by show Ending.returned (.bool (decide (0 ≤ r))) = _; rw [decide_eq_false (by omega)], rfl⟩
  · have h0 : 0 ≤ r := hr.2 (of_decide_eq_true HD.out)
    clear hr
    go_wp2
    go_ret
    exact ⟨rfl, rfl⟩
set_option maxRecDepth 100000 in
set_option maxHeartbeats 4000000 in
theorem lv_nil (w : World) (a b : Bool) : Ob.Looks Tryd.prog 11 #[.pointer none, .bool a, .bool b] w (.int .i64 (if a || b then 3 else 0)) := by
  unfold Ob.Looks
  cases a <;> cases b <;> (go_enter Tryd.func11, Tryd.ntmps11; go_wp2; go_ret; exact ⟨rfl, Below.refl _ _⟩)
set_option maxRecDepth 100000 in
set_option maxHeartbeats 4000000 in
theorem lv_of (w : World) (p : Nat) (F : Nat → Prop) (s : List Nat) (a b : Bool) (h : StatusAt w p F s) : Ob.Looks Tryd.prog 11 #[Ob.ptr p, .bool a, .bool b] w (.int .i64 (Q19.of_ s a b : Int)) := by
  have HH : Hid (StatusAt w p F s) := h
  have HO : Hid (Q19.Ok s) := by obtain ⟨g, _, h⟩ := h; exact h.ok
  clear h
  unfold Ob.Looks
  cases hab : (a || b)
  · obtain ⟨rfl, rfl⟩ := Bool.or_eq_false_iff.1 hab
    clear hab
    have HA : Hid (Calls Tryd.prog 17 #[Ob.ptr p] w fun e w' => e = .returned (.slice (some ⟨w.heap.size, 0, none⟩) s.length s.length) ∧ RowT 3 w' w.heap.size (sA s) ∧ Below w.heap.size w w') := st_list w p F s HH.out
    have HE : Hid (Q19.of_ s false false = if 7 ∈ s then 2 else if 2 < Q19.spread s then 1 else 0) := by
      show Q19.lev s = _
      unfold Q19.lev
      by_cases h7 : 7 ∈ s
      · rw [if_pos ((hi_seven HO.out).2 h7), if_pos h7]
      · rw [if_neg (fun e => h7 ((hi_seven HO.out).1 e)), if_neg h7]
    generalize Q19.of_ s false false = R at HE ⊢
    go_enter Tryd.func11, Tryd.ntmps11
    go_wp2_with fail
    refine HA.out.mono ?_
    rintro e w1 ⟨rfl, hr, hb⟩
    have HB : Hid (Below w.heap.size w w1) := hb
    have HC : Hid (Calls Tryd.prog 16 #[.slice (some ⟨w.heap.size, 0, none⟩) s.length s.length, .int .i64 7] w1 fun e w' => e = .returned (.bool (decide (7 ∈ s))) ∧ w' = w1) := lv_has w1 _ s hr HO.out.len
    have HS : Hid (Ob.Looks Tryd.prog 18 #[Ob.ptr p] w1 (.int .i64 (Q19.spread s : Int))) := st_spread w1 p F s (status_is.on HH.out (fun j hj => hb.block j (status_is.lt HH.out j hj)))
    clear hr hb HA
    generalize s.length = n at *
    go_wp2_with fail
    refine HC.out.mono ?_
    rintro e w2 ⟨rfl, rfl⟩
    clear HC
    by_cases h7 : 7 ∈ s
    · rw [decide_eq_true h7]
      obtain rfl : R = 2 := by rw [HE.out, if_pos h7]
      clear HE h7
      go_wp2_with fail
      go_ret
      exact ⟨rfl, HB.out⟩
    · rw [decide_eq_false h7]
      have HE2 : Hid (R = if 2 < Q19.spread s then 1 else 0) := by have := HE.out; rw [if_neg h7] at this; exact this
      clear HE h7
      go_wp2_with fail
      refine HS.out.mono ?_
      rintro e w3 ⟨rfl, hb⟩
      have HB2 : Hid (Below w.heap.size w w3) := below_join HB.out hb
      clear HS hb HB
      have hsp : Q19.spread s ≤ 7 := Q19.spread_le HO.out
      generalize Q19.spread s = D at HE2 hsp ⊢
      by_cases h2 : 2 < D
      · obtain rfl : R = 1 := by rw [HE2.out, if_pos h2]
        have h2i : (2 : Int) < (D : Int) := by omega
        clear HE2
        go_wp2_with fail
        go_ret
        exact ⟨rfl, HB2.out⟩
      · obtain rfl : R = 0 := by rw [HE2.out, if_neg h2]
        have h2i : ¬ ((2 : Int) < (D : Int)) := by omega
        clear HE2
        go_wp2_with fail
        go_ret
        exact ⟨rfl, HB2.out⟩
  · have e3 : Q19.of_ s a b = 3 := by unfold Q19.of_; rw [hab, if_pos rfl]
    rw [e3]
    cases a <;> cases b
    · cases hab
    all_goals (go_enter Tryd.func11, Tryd.ntmps11; go_wp2; go_ret; exact ⟨rfl, Below.refl _ _⟩)
set_option maxRecDepth 100000 in
set_option maxHeartbeats 4000000 in
theorem lv_at (w : World) (h : LTab w) (l : Int) (wl : (Lit.int .i64 l).wf = true) : Calls Tryd.prog 20 #[.int .i64 l] w fun e w' => e = .returned (.agg #[.bool (Q19.may l), .bool (Q19.beats l)]) ∧ Below w.heap.size w w' := by
  have HT : Hid (LTab (w.alloc (.cells #[.bool false, .bool false] 47))) := h.alloc _
  clear h
  by_cases hl : 0 ≤ l ∧ l < 4
  · obtain ⟨k, rfl⟩ : ∃ k : Nat, l = (k : Int) := ⟨l.toNat, by omega⟩
    have hk : k < 4 := by omega
    obtain ⟨c0, c1⟩ := HT.out.2 k _ (List.getElem?_eq_getElem hk)
    clear hl
    obtain rfl | rfl | rfl | rfl : k = 0 ∨ k = 1 ∨ k = 2 ∨ k = 3 := by omega
    · simp only [duties, List.getElem_cons_zero, Nat.reduceMul, Nat.reduceAdd] at c0 c1
      clear hk wl
      go_enter Tryd.func20, Tryd.ntmps20
      go_wp2
      refine bodyPost_ret (v := .agg #[.bool true, .bool true]) (by simp [results, Tryd.results20, go_sem]) rfl ⟨rfl, ?_⟩
      exact (Below.refl _ _).alloc (Nat.le_refl _) _
    · simp only [duties, List.getElem_cons_zero, List.getElem_cons_succ, Nat.reduceMul, Nat.reduceAdd] at c0 c1
      clear hk wl
      go_enter Tryd.func20, Tryd.ntmps20
      go_wp2
      refine bodyPost_ret (v := .agg #[.bool true, .bool true]) (by simp [results, Tryd.results20, go_sem]) rfl ⟨rfl, ?_⟩
      exact (Below.refl _ _).alloc (Nat.le_refl _) _
    · simp only [duties, List.getElem_cons_zero, List.getElem_cons_succ, Nat.reduceMul, Nat.reduceAdd] at c0 c1
      clear hk wl
      go_enter Tryd.func20, Tryd.ntmps20
      go_wp2
      refine bodyPost_ret (v := .agg #[.bool false, .bool true]) (by simp [results, Tryd.results20, go_sem]) rfl ⟨rfl, ?_⟩
      exact (Below.refl _ _).alloc (Nat.le_refl _) _
    · simp only [duties, List.getElem_cons_zero, List.getElem_cons_succ, Nat.reduceMul, Nat.reduceAdd] at c0 c1
      clear hk wl
      go_enter Tryd.func20, Tryd.ntmps20
      go_wp2
      refine bodyPost_ret (v := .agg #[.bool false, .bool false]) (by simp [results, Tryd.results20, go_sem]) rfl ⟨rfl, ?_⟩
      exact (Below.refl _ _).alloc (Nat.le_refl _) _
  · have e1 : Q19.may l = false := by unfold Q19.may; simp; omega
    have e2 : Q19.beats l = false := by unfold Q19.beats; simp; omega
    rw [e1, e2]
    by_cases h0 : l < 0
    · clear hl wl
      go_enter Tryd.func20, Tryd.ntmps20
      go_wp2
      refine bodyPost_ret (v := .agg #[.bool false, .bool false]) (by simp [results, Tryd.results20, go_sem]) rfl ⟨rfl, ?_⟩
      exact (Below.refl _ _).alloc (Nat.le_refl _) _
    · have h4 : 4 ≤ l := by omega
      clear hl wl
      go_enter Tryd.func20, Tryd.ntmps20
      go_wp2
      refine bodyPost_ret (v := .agg #[.bool false, .bool false]) (by simp [results, Tryd.results20, go_sem]) rfl ⟨rfl, ?_⟩
      exact (Below.refl _ _).alloc (Nat.le_refl _) _
theorem duty0 (a b : Bool) (w : World) : (Instr.field 47 (.agg #[.bool a, .bool b]) 0).run Tryd.prog w = .ok (.bool a) w := by kernel_rfl
theorem duty1 (a b : Bool) (w : World) : (Instr.field 47 (.agg #[.bool a, .bool b]) 1).run Tryd.prog w = .ok (.bool b) w := by kernel_rfl
set_option maxRecDepth 100000 in
set_option maxHeartbeats 4000000 in
theorem lv_may (w : World) (h : LTab w) (l : Int) (wl : (Lit.int .i64 l).wf = true) : Ob.Looks Tryd.prog 13 #[.int .i64 l] w (.bool (Q19.may l)) := by
  have HA : Hid (Calls Tryd.prog 20 #[.int .i64 l] w fun e w' => e = .returned (.agg #[.bool (Q19.may l), .bool (Q19.beats l)]) ∧ Below w.heap.size w w') := lv_at w h l wl
  unfold Ob.Looks
  generalize Q19.may l = A at *
  generalize Q19.beats l = B at *
  clear h
  go_enter Tryd.func13, Tryd.ntmps13
  go_wp2_with fail
  refine HA.out.mono ?_
  rintro e w1 ⟨rfl, hb⟩
  clear HA
  have f0 := duty0 A B w1
  go_wp2
  go_ret
  exact ⟨rfl, hb⟩
set_option maxRecDepth 100000 in
set_option maxHeartbeats 4000000 in
theorem lv_beats (w : World) (h : LTab w) (l : Int) (wl : (Lit.int .i64 l).wf = true) : Ob.Looks Tryd.prog 14 #[.int .i64 l] w (.bool (Q19.beats l)) := by
  have HA : Hid (Calls Tryd.prog 20 #[.int .i64 l] w fun e w' => e = .returned (.agg #[.bool (Q19.may l), .bool (Q19.beats l)]) ∧ Below w.heap.size w w') := lv_at w h l wl
  unfold Ob.Looks
  generalize Q19.may l = A at *
  generalize Q19.beats l = B at *
  clear h
  go_enter Tryd.func14, Tryd.ntmps14
  go_wp2_with fail
  refine HA.out.mono ?_
  rintro e w1 ⟨rfl, hb⟩
  clear HA
  have f0 := duty1 A B w1
  go_wp2
  go_ret
  exact ⟨rfl, hb⟩
theorem levelSpec : LevelSpec StatusAt LTab := ⟨fun w _ p F s a b h => lv_of w p F s a b h, fun w _ a b => lv_nil w a b, lv_may, lv_beats⟩
end Go.Proofs.YtfempghbkchepaaDoor
