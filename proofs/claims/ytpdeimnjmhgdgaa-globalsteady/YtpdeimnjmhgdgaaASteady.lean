/- GlobalSteady: beats of one, none of them with a step, make it steady; another one, or a step, begins anew, for every slice of at most 100 bytes (others are let by); no condition. -/
import Derived.Test.YtpdeimnjmhgdgaaA2
import Derived.Test.YtpdeimnjmhgdgaaFu
import Derived.ProofKit
import Derived.OpenShut
namespace Go.Proofs.Ytpdeimnjmhgdgaa.globalSteady
open Go.ChangeShapes Go.WideShapes Go.ChangeAt Go.RowKit
set_option linter.unusedVariables false
variable {At : Ob.A Gq.St}
set_option maxRecDepth 100000 in
set_option maxHeartbeats 1000000 in
theorem long (S : GlobalSpec At) (s : Option Addr) (len cap : Nat) (hl : 100 < len) (W : World) :
    Calls Try.prog 6 #[.slice s len cap] W fun e w' => e = .returned (.bool true) ∧ Below W.heap.size W w' := by
  have hk := known11_any S W
  go_enter Try.func6, Try.ntmps6
  go_wp2_with fail
  refine hk.mono ?_
  rintro e w1 ⟨rfl, hb1⟩
  have hA : Hid (Below W.heap.size W w1) := hb1
  clear hk hb1
  go_wp2
  go_ret
  exact ⟨rfl, hA.out⟩
/-- What a beat makes of it. -/
theorem key {s : Gq.St} {l : Int} (h : Gq.Last s l) (hn : Gq.steady s < 1000) (who : Int) (g m : Nat) (dd : Bool) (hok : Gq.Ok (Gq.beat s who g m dd)) {N M : Nat} {ob : Bool} (eN : Gq.steady s = N) (eM : Gq.steady (Gq.beat s who g m dd) = M) (eo : Gq.lo (Gq.beat s who g m dd) = ob) :
    (0 < N ∧ who = l ∧ dd = false ∧ M = N + 1 ∧ ob = true) ∨ (N = 0 ∧ M = 1 ∧ ob = false) ∨ (0 < N ∧ who ≠ l ∧ M = 1 ∧ ob = false) ∨ (0 < N ∧ who = l ∧ dd = true ∧ M = 1 ∧ ob = false) := by
  have h1 := Gq.steady_beat h hn who g m dd
  have h2 := Gq.lo_steady hok
  rw [eM, eN] at h1
  rw [eM, eo] at h2
  by_cases c : 0 < N ∧ who = l ∧ dd = false
  · rw [if_pos c] at h1
    exact Or.inl ⟨c.1, c.2.1, c.2.2, h1, by rw [h2]; exact decide_eq_true (by omega)⟩
  · rw [if_neg c] at h1
    have ho : ob = false := by rw [h2]; exact decide_eq_false (by omega)
    by_cases c1 : 0 < N
    · by_cases c2 : who = l
      · cases dd with
        | false => exact absurd ⟨c1, c2, rfl⟩ c
        | true => exact Or.inr (Or.inr (Or.inr ⟨c1, c2, rfl, h1, ho⟩))
      · exact Or.inr (Or.inr (Or.inl ⟨c1, c2, h1, ho⟩))
    · exact Or.inr (Or.inl ⟨by omega, h1, ho⟩)
set_option maxRecDepth 100000 in
set_option maxHeartbeats 4000000 in
theorem row (S : GlobalSpec At) (s : Option Addr) (len cap : Nat) (B : Nat → Nat) (hl : len ≤ 100) (W : World) (h1 : Hid (U8Row W s len B)) :
    Calls Try.prog 6 #[.slice s len cap] W fun e w' => e = .returned (.bool true) ∧ Below W.heap.size W w' := by
  have hk := known11_any S W
  have d1 : ¬ 100 < len := by omega
  have HL : Hid (len ≤ 100) := hl
  clear hl
  go_enter Try.func6, Try.ntmps6
  go_wp2_with fail
  refine hk.mono ?_
  rintro e w1 ⟨rfl, hb1⟩
  have hA : Hid (Below W.heap.size W w1) := hb1
  clear hk hb1
  go_wp2_with fail
  refine (Ob.own_new (B := W.heap.size) (S.new _) hA.out.size).mono ?_
  rintro e w' ⟨p, rfl, O', hb'⟩
  replace hA : Hid (Below W.heap.size W w') := hA.out.trans hb'
  have OB : Hid (Ob.Own At W.heap.size w' p (.no)) := O'
  clear O' hb'
  go_wp2_with fail
  go_loopw [4, 5, 6] (fun vn vl i wr => ∃ (k N : Nat) (s : Gq.St) (l : Int), k ≤ len ∧ vn = .int .i64 N ∧ vl = .int .i64 l ∧ i = .int .i64 k ∧ Hid (Gq.steady s = N) ∧ N ≤ k ∧ Hid (Gq.Last s l) ∧ Hid (Ob.Own At W.heap.size wr p s) ∧ Hid (Below W.heap.size W wr)) (fun _ _ i _ => len - (intOf i).toNat)
  case atStart => exact ⟨0, 0, .no, -1, Nat.zero_le _, rfl, rfl, rfl, rfl, Nat.le_refl _, trivial, OB, hA⟩
  case round =>
    clear OB hA
    obtain ⟨k, N, s, l, hk, rfl, rfl, rfl, HN, hNk, HL0, OB, hA⟩ := hrel
    by_cases hlt : k < len
    · obtain h0 | ⟨b1, o1, rfl, hc1⟩ := h1.out
      · omega
      have hce : Hid (∀ w : World, Below wr.heap.size wr w → w.cell? ⟨b1, o1 + k, none⟩ = some (.int .u8 (B k : Int))) := fun w hb => by
        have h := (hc1 k hlt).1
        have hb2 := hA.out.trans (hb.mono hA.out.size)
        rw [hb2.cell (p := ⟨b1, o1 + k, none⟩) (block_lt_of_cell h)]
        exact h
      have hB := (hc1 k hlt).2
      clear hc1
      generalize B k = x at *
      have hl := HL.out
      obtain ⟨y, hy⟩ : ∃ y : Nat, (x : Int) % 3 = (y : Int) := ⟨x % 3, by omega⟩
      have hy' : (x : Int).tmod 3 = (y : Int) := by rw [Int.tmod_eq_emod_of_nonneg (by omega)]; exact hy
      obtain ⟨z, hz⟩ : ∃ z : Nat, ((x : Int) / 3) % 4 = (z : Int) := ⟨x / 3 % 4, by omega⟩
      have hz1 : (x : Int).tdiv 3 = (x : Int) / 3 := Int.tdiv_eq_ediv_of_nonneg (by omega)
      have hz' : ((x : Int) / 3).tmod 4 = (z : Int) := by rw [Int.tmod_eq_emod_of_nonneg (by omega)]; exact hz
      obtain ⟨G, hG⟩ : ∃ G, 100 * k = G := ⟨_, rfl⟩
      have g1 : 100 * (k : Int) = (G : Int) := by omega
      have g2 : (G : Int) ≤ 10000 := by omega
      have yi : (y : Int) ≤ 2 := by omega
      have xi : (x : Int) < 256 := by omega
      have x3 : (x : Int) / 3 < 256 := by omega
      have x3' : 0 ≤ (x : Int) / 3 := by omega
      have HG : Hid (G < 65536) := by show G < 65536; omega
      have HW : Hid ((Lit.int .i64 (y : Int)).wf = true) := WalkArith.wf_i64 ⟨by omega, by omega⟩
      have HN1 : Hid (Gq.steady s < 1000) := by show _ < _; rw [HN.out]; omega
      have c0 := hce.out _ (Below.refl _ _)
      clear hl hB hy hz hG
      go_wp2_with fail
      refine Lw.wp_region_quiet_below (by kernel_rfl) (by kernel_rfl) ?_
      repeat (first
        | go_big_quiet_skip
        | (go_big_quiet_want; go_big_quiet_op; go_big_quiet_on)
        | (go_big_quiet_want; go_big_quiet_op; apply Exists.intro; refine ⟨fun _ hb' => ?_, ?_⟩; (first
          | exact Lw.val_rfl _
          | (simp [go_sem, hce.out _ hb']; rfl)); go_big_quiet_on))
      refine wpQuiet_nil ?_
      intro w5 hb5
      replace hA : Hid (Below W.heap.size W w5) := hA.out.trans (hb5.mono hA.out.size)
      replace OB : Hid (Ob.Own At W.heap.size w5 p s) := OB.out.on S.is hb5
      clear hb5 c0 hce
      obtain ⟨dd, hdd⟩ : ∃ dd : Bool, ((z : Int) == 0) = dd := ⟨_, rfl⟩
      go_wp2_with fail
      refine (Ob.own_turn (fun F h => S.beat _ _ F _ (y : Int) G G dd HW.out HG.out HG.out h) OB.out hA.out.size).mono ?_
      rintro e w' ⟨rfl, O', hb'⟩
      replace hA : Hid (Below W.heap.size W w') := hA.out.trans hb'
      replace OB : Hid (Ob.Own At W.heap.size w' _ (Gq.beat s (y : Int) G G dd)) := O'
      clear O' hb'
      have hok : Gq.Ok (Gq.beat s (y : Int) G G dd) := by obtain ⟨F, h, _⟩ := OB.out; exact S.ok h
      have HLs : Hid (Gq.Last (Gq.beat s (y : Int) G G dd) (y : Int)) := Gq.last_beat _ _ _ _ _
      have hkey := fun {M ob} => key (N := N) (M := M) (ob := ob) HL0.out HN1.out (y : Int) G G dd hok HN.out
      generalize Gq.beat s (y : Int) G G dd = s' at *
      obtain ⟨M, hM⟩ : ∃ M, Gq.steady s' = M := ⟨_, rfl⟩
      obtain ⟨ob, hob⟩ : ∃ ob, Gq.lo s' = ob := ⟨_, rfl⟩
      obtain ⟨A1, hA1⟩ : ∃ A1, Gq.la s' = A1 := ⟨_, rfl⟩
      obtain ⟨B1, hB1⟩ : ∃ B1, Gq.lb s' = B1 := ⟨_, rfl⟩
      have hk2 := hkey hM hob
      have HM : Hid (Gq.steady s' = M) := hM
      have HLn : Hid (∀ w p F, At w p F s' → Ob.Looks Try.prog 14 #[Ob.ptr p] w (.tuple #[.int .i64 (A1 : Int), .int .i64 (B1 : Int), .bool ob])) := fun w p F h => by
        have := S.lens w p F _ h
        rw [hA1, hB1, hob] at this
        exact this
      have HSt : Hid (∀ w p F, At w p F s' → Ob.Looks Try.prog 20 #[Ob.ptr p] w (.int .i64 (M : Int))) := fun w p F h => by
        have := S.steady w p F _ h
        rw [hM] at this
        exact this
      clear hok hkey hM hob hA1 hB1 HL0 HN1 HN
      rcases hk2 with ⟨c1, c2, rfl, rfl, rfl⟩ | ⟨c1, rfl, rfl⟩ | ⟨c1, c2, rfl, rfl⟩ | ⟨c1, c2, rfl, rfl, rfl⟩
      · have ci : (0 : Int) < (N : Int) := by omega
        have c3 : (2 : Int) ≤ (N : Int) + 1 := by omega
        have c4 : ((N : Int) + 1 < 2) = False := eq_false (by omega)
        subst c2
        go_wp2_with fail
        refine (Ob.own_look S.is (fun F h => HLn.out _ _ F h) OB.out hA.out.size).mono ?_
        rintro e w' ⟨rfl, O', hb'⟩
        replace hA : Hid (Below W.heap.size W w') := hA.out.trans hb'
        replace OB : Hid (Ob.Own At W.heap.size w' _ _) := O'
        clear O' hb'
        go_wp2_with fail
        refine (Ob.own_look S.is (fun F h => HSt.out _ _ F h) OB.out hA.out.size).mono ?_
        rintro e w' ⟨rfl, O', hb'⟩
        replace hA : Hid (Below W.heap.size W w') := hA.out.trans hb'
        replace OB : Hid (Ob.Own At W.heap.size w' _ _) := O'
        clear O' hb'
        go_wp2
        exact ⟨⟨k + 1, N + 1, s', _, by omega, by simp, rfl, by simp, HM, by omega, HLs, OB, hA⟩, by simp [intOf]; omega⟩
      · subst c1
        go_wp2_with fail
        refine (Ob.own_look S.is (fun F h => HLn.out _ _ F h) OB.out hA.out.size).mono ?_
        rintro e w' ⟨rfl, O', hb'⟩
        replace hA : Hid (Below W.heap.size W w') := hA.out.trans hb'
        replace OB : Hid (Ob.Own At W.heap.size w' _ _) := O'
        clear O' hb'
        go_wp2_with fail
        refine (Ob.own_look S.is (fun F h => HSt.out _ _ F h) OB.out hA.out.size).mono ?_
        rintro e w' ⟨rfl, O', hb'⟩
        replace hA : Hid (Below W.heap.size W w') := hA.out.trans hb'
        replace OB : Hid (Ob.Own At W.heap.size w' _ _) := O'
        clear O' hb'
        go_wp2
        exact ⟨⟨k + 1, 1, s', _, by omega, by simp, rfl, by simp, HM, by omega, HLs, OB, hA⟩, by simp [intOf]; omega⟩
      · have ci : (0 : Int) < (N : Int) := by omega
        have c2' : ((y : Int) == l) = false := beq_eq_false_iff_ne.2 c2
        go_wp2_with fail
        refine (Ob.own_look S.is (fun F h => HLn.out _ _ F h) OB.out hA.out.size).mono ?_
        rintro e w' ⟨rfl, O', hb'⟩
        replace hA : Hid (Below W.heap.size W w') := hA.out.trans hb'
        replace OB : Hid (Ob.Own At W.heap.size w' _ _) := O'
        clear O' hb'
        go_wp2_with fail
        refine (Ob.own_look S.is (fun F h => HSt.out _ _ F h) OB.out hA.out.size).mono ?_
        rintro e w' ⟨rfl, O', hb'⟩
        replace hA : Hid (Below W.heap.size W w') := hA.out.trans hb'
        replace OB : Hid (Ob.Own At W.heap.size w' _ _) := O'
        clear O' hb'
        go_wp2
        exact ⟨⟨k + 1, 1, s', _, by omega, by simp, rfl, by simp, HM, by omega, HLs, OB, hA⟩, by simp [intOf]; omega⟩
      · have ci : (0 : Int) < (N : Int) := by omega
        subst c2
        go_wp2_with fail
        refine (Ob.own_look S.is (fun F h => HLn.out _ _ F h) OB.out hA.out.size).mono ?_
        rintro e w' ⟨rfl, O', hb'⟩
        replace hA : Hid (Below W.heap.size W w') := hA.out.trans hb'
        replace OB : Hid (Ob.Own At W.heap.size w' _ _) := O'
        clear O' hb'
        go_wp2_with fail
        refine (Ob.own_look S.is (fun F h => HSt.out _ _ F h) OB.out hA.out.size).mono ?_
        rintro e w' ⟨rfl, O', hb'⟩
        replace hA : Hid (Below W.heap.size W w') := hA.out.trans hb'
        replace OB : Hid (Ob.Own At W.heap.size w' _ _) := O'
        clear O' hb'
        go_wp2
        exact ⟨⟨k + 1, 1, s', _, by omega, by simp, rfl, by simp, HM, by omega, HLs, OB, hA⟩, by simp [intOf]; omega⟩
    · have hkl : k = len := by omega
      go_wp2_with fail
      refine (Ob.own_turn (fun F h => S.forget _ _ F _ h) OB.out hA.out.size).mono ?_
      rintro e w' ⟨rfl, O', hb'⟩
      replace hA : Hid (Below W.heap.size W w') := hA.out.trans hb'
      replace OB : Hid (Ob.Own At W.heap.size w' _ (.no)) := O'
      clear O' hb'
      go_wp2_with fail
      refine (Ob.own_look (v := .int .i64 0) S.is (fun F h => S.steady _ _ F _ h) OB.out hA.out.size).mono ?_
      rintro e w' ⟨rfl, O', hb'⟩
      replace hA : Hid (Below W.heap.size W w') := hA.out.trans hb'
      replace OB : Hid (Ob.Own At W.heap.size w' _ _) := O'
      clear O' hb'
      go_wp2_with fail
      refine (Ob.own_look (v := .int .u16 9) S.is (fun F h => S.tell _ _ F _ 9 (by decide) h) OB.out hA.out.size).mono ?_
      rintro e w' ⟨rfl, O', hb'⟩
      replace hA : Hid (Below W.heap.size W w') := hA.out.trans hb'
      replace OB : Hid (Ob.Own At W.heap.size w' _ _) := O'
      clear O' hb'
      go_wp2
      go_ret
      exact ⟨rfl, hA.out⟩
theorem walkA (S : GlobalSpec At) (s0 : Option Addr) (len0 cap0 : Nat) {w : World} (w0 : len0 ≤ maxLen ∧ ∃ B, U8Row w s0 len0 B) (w' : World) (hw : w' = w) :
    Calls Try.prog 6 #[.slice s0 len0 cap0] w' fun e w'' => e = .returned (.bool true) ∧ Below w'.heap.size w' w'' := by
  subst hw
  obtain ⟨_, B, hB⟩ := w0
  by_cases h : 100 < len0
  · exact long S _ _ _ h _
  · exact row S _ _ _ B (by omega) _ hB
end Go.Proofs.Ytpdeimnjmhgdgaa.globalSteady
