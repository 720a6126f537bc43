/- StatusPlays: for every number and every two slices of at most a hundred (more, or too few truths, are let by): as the document's counters, its copies apart; no condition. -/
import Derived.Test.YtdkecdlgiomloaaK19
import Derived.ProofKit
import Derived.OpenShut
import Derived.Deep.CutBlock
import Derived.Test.YtdkecdlgiomloaaHl
import Derived.Test.YtdkecdlgiomloaaB19
namespace Go.Proofs.Ytdkecdlgiomloaa.statusPlays
open Go.ChangeShapes Go.WideShapes Go.ChangeAt Go.RowKit
set_option linter.unusedVariables false
variable {At : Ob.A (List Nat)}
theorem lst_num {R : Oq.Rs} {a : Option Addr} {c n : Nat} {l : List Nat} {w : World} {m x : Nat} (h : Oq.Lst R a c n (sL l)) (h0 : m < n) (hx : l[m]? = some x) (hr : ∀ w', Below w.heap.size w w' → Oq.Rows R w') : ∃ g o, a = some ⟨g, o, none⟩ ∧ ∀ w', Below w.heap.size w w' → w'.cell? ⟨g, o + m, none⟩ = some (.int .i64 (x : Int)) := by
  rcases h.2.2 with k0 | ⟨g, o, b, e, hb, hc⟩
  · omega
  · exact ⟨g, o, e, fun w' hw => hc w' (hr w' hw _ hb) m _ (sL_get hx)⟩
set_option maxRecDepth 100000 in
set_option maxHeartbeats 8000000 in
theorem walkA (S : StatusSpec At) (n : Int) (wn : (Lit.int .i64 n).wf = true) (s1 : Option Addr) (len1 cap1 : Nat) (B : Nat → Int) (s2 : Option Addr) (len2 cap2 : Nat) (G : Nat → Bool) (W : World) (h1 : IsI19 W s1 len1 B) (h2 : IsB19 W s2 len2 G) :
    Calls Try.prog 3 #[.int .i64 n, .slice s1 len1 cap1, .slice s2 len2 cap2] W fun e w' => e = .returned (.bool true) ∧ Below W.heap.size W w' := by
  go_enter Try.func3, Try.ntmps3
  go_wp2_with fail
  refine (known19_any S _).mono ?_
  rintro e w1 ⟨rfl, hb⟩
  have HB : Hid (Below W.heap.size W w1) := hb
  have H1 := h1.hold
  have H2 := h2.hold
  have HE1 : Hid (∀ i, i < len1 → ∃ b off, s1 = some ⟨b, off, none⟩ ∧ (∀ w', Below W.heap.size W w' → w'.cell? ⟨b, off + i, none⟩ = some (.int .i64 (B i))) ∧ (Lit.int .i64 (B i)).wf = true) := H1
  have HE2 : Hid (∀ i, i < len2 → ∃ b off, s2 = some ⟨b, off, none⟩ ∧ ∀ w', Below W.heap.size W w' → w'.cell? ⟨b, off + i, none⟩ = some (.bool (G i))) := H2
  clear hb h1 h2 H1 H2
  by_cases h100 : 100 < len1
  · have h100i : (100 : Int) < (len1 : Int) := by omega
    clear wn
    go_wp2
    go_ret
    exact ⟨rfl, HB.out⟩
  have h100i : ¬ ((100 : Int) < (len1 : Int)) := by omega
  by_cases hll : len2 < len1
  · have hlli : (len2 : Int) < (len1 : Int) := by omega
    clear wn
    go_wp2
    go_ret
    exact ⟨rfl, HB.out⟩
  have hlli : ¬ ((len2 : Int) < (len1 : Int)) := by omega
  have HLe : Hid (len1 ≤ 100 ∧ len1 ≤ len2) := (by omega : len1 ≤ 100 ∧ len1 ≤ len2)
  have HW : Hid ((Lit.int .i64 n).wf = true) := wn
  clear wn
  go_wp2_with fail
  refine (Oq.O1.make (S.new w1 n HW.out) HB.out).mono ?_
  rintro e w2 ⟨p, rfl, hq⟩
  have HP : Hid (Oq.O1 At W w2 p (Q19.mk n) []) := hq
  clear hq HB
  go_wp2_with fail
  refine (HP.out.make2 S.is (fun F hF => rt_new w2 n HW.out)).mono ?_
  rintro e w3 ⟨q, rfl, hq⟩
  have HOs : Hid (∃ s, Q19.Ok s ∧ Oq.O2 At RtAt W w3 p s q s []) := ⟨Q19.mk n, Q19.ok_mk n, hq⟩
  clear hq HP HW h100 h100i hll hlli
  go_wp2_with fail
  go_loopw [9] (fun vi wr => ∃ i : Nat, i ≤ len1 ∧ vi = .int .i64 (i : Int) ∧ Hid (∃ s, Q19.Ok s ∧ Oq.O2 At RtAt W wr p s q s [])) (fun vi _ => len1 - (intOf vi).toNat)
  case atStart => exact ⟨0, Nat.zero_le _, rfl, HOs⟩
  case round =>
    clear HOs
    obtain ⟨i, hi, rfl, HOs⟩ := hrel
    by_cases hil : i < len1
    · obtain ⟨b, off, rfl, hc, hB⟩ := HE1.out i hil
      obtain ⟨b2, off2, rfl, hc2⟩ := HE2.out i (by have := HLe.out; omega)
      have ii : (i : Int) < (len1 : Int) := by omega
      have i2 : (i : Int) < (len2 : Int) := by have := HLe.out; omega
      have ib : (i : Int) < 1000 := by have := HLe.out; omega
      obtain ⟨s, hok, ho⟩ := HOs.out
      have HO : Hid (Oq.O2 At RtAt W wr p s q s []) := ho
      have HS : Hid (Q19.Ok s) := hok
      have HC1 : Hid (∀ w', Below W.heap.size W w' → w'.cell? ⟨b, off + i, none⟩ = some (.int .i64 (B i))) := hc
      have HC2 : Hid (∀ w', Below W.heap.size W w' → w'.cell? ⟨b2, off2 + i, none⟩ = some (.bool (G i))) := hc2
      have HK : Hid ((Lit.int .i64 (B i)).wf = true) := hB
      clear hc hc2 ho hok hB HOs
      generalize B i = k at HC1 HK
      generalize G i = gd at HC2
      go_wp2_with fail
      refine (HO.out.make3 S.is rt_is (fun F hF => S.copy wr p F s hF)).mono ?_
      rintro e w4 ⟨c, rfl, hq⟩
      have HT : Hid (Oq.O3 At RtAt At W w4 p s q s c s []) := hq
      clear hq HO
      have c1 := HC1.out w4 HT.out.bel
      have c2 := HC2.out w4 HT.out.bel
      go_upto_if 44 with fail
      go_cut [] from 45 to 68 (fun wy => ∃ s' : List Nat, Q19.Ok s' ∧ Oq.O3 At RtAt At W wy p s' q s' c s [])
      case first =>
        cases gd
        · go_wp2_with fail
          refine (HT.out.turn rt_is S.is (fun F hF => S.bad _ p F s k HK.out hF)).mono ?_
          rintro e w5 ⟨rfl, hq⟩
          have HU : Hid (Oq.O3 At RtAt At W w5 p (Q19.up s k) q s c s []) := hq
          clear hq HT c1 c2
          have c1 := HC1.out w5 HU.out.bel
          go_wp2_with fail
          refine (HU.out.turn2 S.is S.is (fun F hF => rt_add _ q F s k 1 (by omega) hF)).mono ?_
          rintro e w6 ⟨rfl, hq⟩
          rw [add_up HS.out] at hq
          have HV : Hid (Oq.O3 At RtAt At W w6 p (Q19.up s k) q (Q19.up s k) c s []) := hq
          clear hq HU c1
          go_wp2_with fail
          all_goals
            go_meet
            case rel => exact ⟨_, Q19.ok_up HS.out _, HV.out⟩
        · go_wp2_with fail
          refine (HT.out.turn rt_is S.is (fun F hF => S.good _ p F s k HK.out hF)).mono ?_
          rintro e w5 ⟨rfl, hq⟩
          have HU : Hid (Oq.O3 At RtAt At W w5 p (Q19.down s k) q s c s []) := hq
          clear hq HT c1 c2
          have c1 := HC1.out w5 HU.out.bel
          go_wp2_with fail
          refine (HU.out.turn2 S.is S.is (fun F hF => rt_add _ q F s k (-1) (by omega) hF)).mono ?_
          rintro e w6 ⟨rfl, hq⟩
          rw [add_down HS.out] at hq
          have HV : Hid (Oq.O3 At RtAt At W w6 p (Q19.down s k) q (Q19.down s k) c s []) := hq
          clear hq HU c1
          go_wp2_with fail
          all_goals
            go_meet
            case rel => exact ⟨_, Q19.ok_down HS.out _, HV.out⟩
      case rest =>
        clear HT c1 c2
        obtain ⟨s', hok, ho⟩ := hcut
        have HS' : Hid (Q19.Ok s') := hok
        have HT : Hid (Oq.O3 At RtAt At W wc p s' q s' c s []) := ho
        clear hok ho
        go_wp2_with fail
        refine (HT.out.turn3 S.is rt_is (fun F hF => S.bad wc c F s 0 (by decide) hF)).mono ?_
        rintro e w5 ⟨rfl, hq⟩
        have HT2 : Hid (Oq.O2 At RtAt W w5 p s' q s' []) := hq.drop
        clear hq HT HS
        go_wp2_with fail
        refine (HT2.out.list S.is rt_is (fun F hF => S.all w5 p F s' hF)).mono ?_
        rintro e w6 ⟨a, ca, R, rfl, hL, hq⟩
        rw [List.append_nil] at hq
        have HL : Hid (Oq.Lst R a ca s'.length (sL s')) := hL
        have HU : Hid (Oq.O2 At RtAt W w6 p s' q s' R) := hq
        clear hL hq HT2
        go_wp2_with fail
        refine (HU.out.look2 S.is rt_is (fun F hF => rt_spread w6 q F s' hF)).mono ?_
        rintro e w7 ⟨rfl, hq⟩
        have HV : Hid (Oq.O2 At RtAt W w7 p s' q s' R) := hq
        clear hq HU
        obtain ⟨ra, rc, hok, hrow, hnum⟩ := HV.out.doc
        have HN0 : Hid (∀ m x : Nat, s'[m]? = some x → ∃ g o, ra = some ⟨g, o, none⟩ ∧ ∀ w', Below w7.heap.size w7 w' → w'.cell? ⟨g, o + m, none⟩ = some (.int .i64 (x : Int))) := hnum
        obtain ⟨N, hN⟩ : ∃ N, s'.length = N := ⟨_, rfl⟩
        obtain ⟨D, hD⟩ : ∃ D, Q19.spread s' = D := ⟨_, rfl⟩
        obtain ⟨M, hM⟩ : ∃ M, Q19.hi s' = M := ⟨_, rfl⟩
        obtain ⟨X, hX⟩ : ∃ X, Q19.get s' k = X := ⟨_, rfl⟩
        have HSp : Hid (∀ w', Below w7.heap.size w7 w' → Calls Try.prog 16 #[Ob.ptr p] w' fun e w'' => e = .returned (.int .i64 (D : Int)) ∧ Below w'.heap.size w' w'') := HV.out.looks S.is (fun w F hF => by have := S.spread w p F s' hF; rwa [hD] at this)
        have HG1 : Hid (∀ w', Below w7.heap.size w7 w' → Calls Try.prog 17 #[Ob.ptr p, .int .i64 k] w' fun e w'' => e = .returned (.int .i64 (X : Int)) ∧ Below w'.heap.size w' w'') := HV.out.looks S.is (fun w F hF => by have := S.get w p F s' k HK.out hF; rwa [hX] at this)
        have HG2 : Hid (∀ w', Below w7.heap.size w7 w' → Calls Try.prog 18 #[Ob.ptr q, .int .i64 k] w' fun e w'' => e = .returned (.int .i64 (X : Int)) ∧ Below w'.heap.size w' w'') := HV.out.looks2 S.is rt_is (fun w F hF => by have := rt_get w q F s' k hF; rwa [hX] at this)
        have HRw : Hid (∀ w', Below w7.heap.size w7 w' → w'.cell? ⟨q, 0, none⟩ = some (.slice ra s'.length rc)) := hrow
        have HCe : Hid (∀ w', Below w7.heap.size w7 w' → w'.cell? ⟨b, off + i, none⟩ = some (.int .i64 k)) := fun w' hb => HC1.out w' (HV.out.bel.trans (hb.mono HV.out.bel.size))
        have HLn : Hid (s'.length = N ∧ N ≤ 12) := ⟨hN, by rw [← hN]; exact hok.len⟩
        have hN12 : (N : Int) ≤ 12 := by rw [← hN]; exact Int.ofNat_le.2 hok.len
        rw [hN] at HRw HL
        rw [hN, hD, hM]
        clear hok hrow hnum hN hD hM hX
        go_upto_region 18 with fail
        refine Lw.wp_region_quiet_below (by kernel_rfl) (by kernel_rfl) ?_
        repeat (first
          | go_big_quiet_skip
          | (go_big_quiet_want; go_big_quiet_op; go_big_quiet_on)
          | (go_big_quiet_want; go_big_quiet_op; apply Exists.intro; refine ⟨fun _ hb' => ?_, ?_⟩; (first
            | exact Lw.val_rfl _
            | (go_at_call_of 16 (Ob.ptr p); exact Lw.calls_below hb' (HSp.out _ hb'))
            | (go_at_call_of 17 (Ob.ptr p); exact Lw.calls_below hb' (HG1.out _ hb'))
            | (go_at_call_of 18 (Ob.ptr q); exact Lw.calls_below hb' (HG2.out _ hb'))
            | (simp [go_sem, HRw.out _ hb']; rfl)
            | (simp [go_sem, HCe.out _ hb']; rfl)); go_big_quiet_on))
        refine wpQuiet_nil ?_
        intro w8 hb8
        have HB8 : Hid (Below w7.heap.size w7 w8) := hb8
        have HAc : Hid (∀ m x : Nat, s'[m]? = some x → ∃ g o, a = some ⟨g, o, none⟩ ∧ ∀ w', Below w7.heap.size w7 w' → w'.cell? ⟨g, o + m, none⟩ = some (.int .i64 (x : Int))) := fun m x hx => lst_num HL.out (by have := (List.getElem?_eq_some_iff.1 hx).1; have := HLn.out.1; omega) hx (fun w' hb => (HV.out.on S.is rt_is hb).rows)
        clear hb8 HSp HG1 HG2 HCe HC1 HC2 HK HL
        go_wp2_with fail
        go_loopw [14] (fun vj wj => ∃ j : Nat, j ≤ N ∧ vj = .int .i64 (j : Int) ∧ Hid (Below w7.heap.size w7 wj)) (fun vj _ => N - (intOf vj).toNat)
        case atStart => exact ⟨0, Nat.zero_le _, rfl, HB8⟩
        case round =>
          clear HB8
          obtain ⟨j, hj, rfl, HB8⟩ := hrel
          by_cases hjn : j < N
          · have ij : (j : Int) < (N : Int) := by omega
            obtain ⟨x, hx⟩ : ∃ x, s'[j]? = some x := ⟨_, List.getElem?_eq_getElem (by rw [HLn.out.1]; exact hjn)⟩
            obtain ⟨g, o, rfl, hc⟩ := HAc.out j x hx
            obtain ⟨g2, o2, rfl, hc2⟩ := HN0.out j x hx
            have c0 := hc _ HB8.out
            have d0 := hc2 _ HB8.out
            have r0 := HRw.out _ HB8.out
            clear hx hc hc2
            go_wp2_with fail
            go_region
            all_goals
              go_wp2_with fail
              exact ⟨⟨j + 1, by omega, rfl, HB8.out.drew⟩, by simp only [intOf]; omega⟩
          · obtain rfl : j = N := by omega
            have HOn : Hid (∃ s, Q19.Ok s ∧ Oq.O2 At RtAt W wr p s q s []) := ⟨s', HS'.out, (HV.out.on S.is rt_is HB8.out).less (fun x hx => absurd hx (List.not_mem_nil))⟩
            clear HB8 HV HAc HN0 HRw HLn HS'
            go_wp2_with fail
            go_roundw
            case rel => exact ⟨i + 1, by omega, rfl, HOn⟩
            case measure => simp only [intOf]; omega
    · obtain rfl : i = len1 := by omega
      have ii : ¬ ((i : Int) < (i : Int)) := by omega
      obtain ⟨s, hok, ho⟩ := HOs.out
      have HO : Hid (Oq.O2 At RtAt W wr p s q s []) := ho
      have HS : Hid (Q19.Ok s) := hok
      clear HE1 HE2 HOs ho hok
      go_wp2_with fail
      refine (HO.out.turn rt_is (fun F hF => S.clear wr p F s hF)).mono ?_
      rintro e w4 ⟨rfl, hq⟩
      obtain ⟨N, hN⟩ : ∃ N, s.length = N := ⟨_, rfl⟩
      rw [hN] at hq
      have HC : Hid (Oq.O2 At RtAt W w4 p (List.replicate N 0) q s []) := hq
      have HN : Hid (s.length = N) := hN
      have hN12 : (N : Int) ≤ 12 := by rw [← hN]; exact Int.ofNat_le.2 HS.out.len
      clear hq HO hN HS
      go_wp2_with fail
      refine (HC.out.list S.is rt_is (fun F hF => S.all w4 p F _ hF)).mono ?_
      rintro e w5 ⟨a, ca, R, rfl, hL, hq⟩
      rw [List.append_nil] at hq
      rw [List.length_replicate] at hL ⊢
      have HL : Hid (Oq.Lst R a ca N (sL (List.replicate N 0))) := hL
      have HU : Hid (Oq.O2 At RtAt W w5 p (List.replicate N 0) q s R) := hq
      obtain ⟨ra, rc, _, hrow, _⟩ := hq.doc
      rw [HN.out] at hrow
      have HRw : Hid (∀ w', Below w5.heap.size w5 w' → w'.cell? ⟨q, 0, none⟩ = some (.slice ra N rc)) := hrow
      have HB5 : Hid (Below w5.heap.size w5 w5) := Below.refl _ _
      clear hL hq hrow HC
      go_wp2_with fail
      go_loopw [16] (fun vj wj => ∃ j : Nat, j ≤ N ∧ vj = .int .i64 (j : Int) ∧ Hid (Below w5.heap.size w5 wj)) (fun vj _ => N - (intOf vj).toNat)
      case atStart => exact ⟨0, Nat.zero_le _, rfl, HB5⟩
      case round =>
        clear HB5
        obtain ⟨j, hj, rfl, HB5⟩ := hrel
        by_cases hjn : j < N
        · have ij : (j : Int) < (N : Int) := by omega
          obtain ⟨g, o, rfl, hc⟩ := lst_num HL.out hjn (x := 0) (by rw [List.getElem?_replicate, if_pos hjn]) (fun w' hb => (HU.out.on S.is rt_is hb).rows)
          have c0 : _ = some (Value.int .i64 0) := hc _ HB5.out
          clear hc
          go_wp2_with fail
          go_roundw
          case rel => exact ⟨j + 1, by omega, rfl, HB5⟩
          case measure => simp only [intOf]; omega
        · obtain rfl : j = N := by omega
          have r0 := HRw.out _ HB5.out
          go_wp2
          go_ret
          exact ⟨rfl, HU.out.bel.trans (HB5.out.mono HU.out.bel.size)⟩
end Go.Proofs.Ytdkecdlgiomloaa.statusPlays
