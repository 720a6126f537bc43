/- ObjectStates: of every slice of at most twenty texts (more are let by): a state is what was sent last, however often; an event goes when it is confirmed, in order; no condition. -/
import Derived.Test.YtkgeknkppnadfaaP18
import Derived.Test.YtkgeknkppnadfaaJn
import Derived.ProofKit
import Derived.OpenShut
import Derived.Deep.CutBlock
namespace Go.Proofs.Ytkgeknkppnadfaa.objectStates
open Go.ChangeShapes Go.WideShapes Go.ChangeAt Go.RowKit
set_option linter.unusedVariables false
variable {Q : World → Prop} {At : World → Ob.A Q18.St}
set_option maxRecDepth 100000 in
set_option maxHeartbeats 8000000 in
theorem walkA (hQ : ∀ w w', Q w → Below w.heap.size w w' → Q w') (S : ObjectSpec Q At) (W : World) (hW : Q W) (s0 : Option Addr) (len0 cap0 : Nat) (B : Nat → ByteArray) (hin : IsStrs W s0 len0 cap0 B) : Calls Try.prog 4 #[.slice s0 len0 cap0] W fun e w' => e = .returned (.bool true) ∧ Below W.heap.size W w' := by
  go_enter Try.func4, Try.ntmps4
  go_wp2_with fail
  refine (known18_any hQ S W hW).mono ?_
  rintro e w1 ⟨rfl, hb⟩
  have HB : Hid (Below W.heap.size W w1) := hb
  clear hb
  by_cases h20 : 20 < len0
  · have h20i : (20 : Int) < (len0 : Int) := by omega
    clear hin
    go_wp2
    go_ret
    exact ⟨rfl, HB.out⟩
  have h20i : ¬ ((20 : Int) < (len0 : Int)) := by omega
  have HN : Hid (len0 ≤ 20) := (by omega : len0 ≤ 20)
  have HEl : Hid (∀ i, i < len0 → ∃ b off, s0 = some ⟨b, off, none⟩ ∧ ∀ w', Below W.heap.size W w' → w'.cell? ⟨b, off + i, none⟩ = some (.string (B i))) := fun i hi => by
    rcases hin with ⟨_, h0, _⟩ | ⟨q, rfl, hle, _, hc⟩
    · omega
    · obtain ⟨qb, qo, qs⟩ := q
      have h1 := (hc i (by omega)).1
      obtain rfl : qs = none := by
        have := (hc 0 (by omega)).1
        simpa [Addr.add] using World.cell?_spot this
      rw [Go.WideShapes.add_plain] at h1
      exact ⟨qb, qo, rfl, fun w' hbl => (hbl.cell (p := ⟨qb, qo + i, none⟩) (block_lt_of_cell h1)).trans h1⟩
  clear hin h20
  go_wp2_with fail
  refine (least18_any w1).mono ?_
  rintro e V ⟨a, rfl, hm, hb0⟩
  have HB0 : Hid (Below W.heap.size W V) := HB.out.trans (hb0.mono HB.out.size)
  have HQ : Hid (∀ w, Below V.heap.size V w → Q w) := fun w hb => hQ _ w (hQ W V hW (HB.out.trans (hb0.mono HB.out.size))) hb
  have HM : Hid (MIn V Mx.l18 a) := hm
  clear hm hb0 hQ hW HB
  go_wp2_with fail
  refine (Oq.O1.makeV (S.new V V Mx.l18 a 0 (HQ.out V (Below.refl _ _)) (Below.refl _ _) HM.out ⟨by decide, by decide, by decide⟩ (by decide))).mono ?_
  clear HM
  rintro e w2 ⟨V, p, rfl, hV1, hq⟩
  replace HB0 : Hid (Below W.heap.size W V) := HB0.out.trans (hV1.mono HB0.out.size)
  replace HQ : Hid (∀ w, Below V.heap.size V w → Q w) := fun w hb => HQ.out w (hV1.trans (hb.mono hV1.size))
  clear hV1
  have HO : Hid (Oq.O1 (At V) V w2 p Q18.k0 []) := hq
  clear hq
  have HOs : Hid (∃ s n, Q18.J s n ∧ n = 0 ∧ Oq.O1 (At V) V w2 p s []) := ⟨_, 0, Q18.j0, rfl, HO.out⟩
  clear HO h20i
  go_wp2_with fail
  go_loopw [4, 5, 6, 7, 8] (fun vn vi _v6 _v7 _v8 wr => ∃ i n : Nat, i ≤ len0 ∧ vi = .int .i64 (i : Int) ∧ vn = .int .i64 (n : Int) ∧ n ≤ 4 ∧ Hid (∃ s, Q18.J s n ∧ Oq.O1 (At V) V wr p s [])) (fun _ vi _ _ _ _ => len0 - (intOf vi).toNat)
  case atStart => exact ⟨0, 0, Nat.zero_le _, rfl, rfl, by decide, by obtain ⟨s, n, h1, rfl, h2⟩ := HOs.out; exact ⟨s, h1, h2⟩⟩
  case round =>
    clear HOs
    obtain ⟨i, n, hi, rfl, rfl, hn4, HOs⟩ := hrel
    by_cases hil : i < len0
    · obtain ⟨b, off, rfl, hc⟩ := HEl.out i hil
      have ii : (i : Int) < (len0 : Int) := by omega
      have ib : (i : Int) < 1000 := by have := HN.out; omega
      obtain ⟨s, hJ, ho⟩ := HOs.out
      have HJ : Hid (Q18.J s n) := hJ
      have HO : Hid (Oq.O1 (At V) V wr p s []) := ho
      have HCe : Hid (∀ w', Below V.heap.size V w' → w'.cell? ⟨b, off + i, none⟩ = some (.string (B i))) := fun w' hb => hc w' (HB0.out.trans (hb.mono HB0.out.size))
      have c0 := HCe.out wr ho.bel
      clear hc ho hJ HOs
      generalize B i = D at HCe c0
      by_cases h8 : 8 < D.size
      · have h8i : (8 : Int) < (D.size : Int) := by omega
        have HL := HJ.out.long h8
        have HLo : Hid (Q18.sendE s 0 D = 12 ∧ Q18.sendS s 0 D = s) := HL
        clear HL h8
        go_wp2_with fail
        refine (HO.out.turn (fun F hF => S.send V _ p F _ 0 D (HQ.out _ HO.out.bel) HO.out.bel (by decide) hF)).mono ?_
        rintro e w3 ⟨rfl, hq⟩
        rw [HLo.out.2] at hq
        rw [HLo.out.1]
        replace HO : Hid (Oq.O1 (At V) V w3 p s []) := hq
        clear hq
        have HD : Hid (∃ s, Q18.J s n ∧ Oq.O1 (At V) V w3 p s []) := ⟨s, HJ.out, HO.out⟩
        clear HO HJ HLo c0 HCe
        go_wp2_with fail
        go_roundw
        case rel => exact ⟨i + 1, n, by omega, rfl, rfl, hn4, HD⟩
        case measure => simp only [intOf]; omega
      · have h8i : ¬ ((8 : Int) < (D.size : Int)) := by omega
        have H8 : Hid (¬ 8 < D.size) := h8
        have h0 := HJ.out.send0 h8
        have H0 : Hid (Q18.sendE s 0 D = 0 ∧ Q18.J (Q18.sendS s 0 D) n ∧ Q18.get (Q18.sendS s 0 D).own 0 = some D) := h0
        clear h0 h8 HJ
        go_wp2_with fail
        refine (HO.out.turn (fun F hF => S.send V _ p F _ 0 D (HQ.out _ HO.out.bel) HO.out.bel (by decide) hF)).mono ?_
        rintro e w3 ⟨rfl, hq⟩
        rw [H0.out.1]
        replace HO : Hid (Oq.O1 (At V) V w3 p (Q18.sendS s 0 D) []) := hq
        clear hq
        generalize Q18.sendS s 0 D = s1 at HO H0
        have c1 := HCe.out w3 HO.out.bel
        clear c0
        go_wp2_with fail
        refine (HO.out.turn (fun F hF => S.state V _ p F _ 0 (HQ.out _ HO.out.bel) HO.out.bel (by decide) hF)).mono ?_
        rintro e w4 ⟨rfl, hq⟩
        rw [H0.out.2.2]
        replace HO : Hid (Oq.O1 (At V) V w4 p s1 []) := hq
        clear hq
        have H1 : Hid (Q18.sendE s1 1 D = (if n < 4 then 0 else 170) ∧ Q18.J (Q18.sendS s1 1 D) (min (n + 1) 4)) := H0.out.2.1.send1 H8.out
        have c2 := HCe.out w4 HO.out.bel
        clear c1 H0
        go_wp2_with fail
        refine (HO.out.turn (fun F hF => S.send V _ p F _ 1 D (HQ.out _ HO.out.bel) HO.out.bel (by decide) hF)).mono ?_
        rintro e w5 ⟨rfl, hq⟩
        rw [H1.out.1]
        replace HO : Hid (Oq.O1 (At V) V w5 p (Q18.sendS s1 1 D) []) := hq
        clear hq
        generalize Q18.sendS s1 1 D = s2 at HO H1
        have c3 := HCe.out w5 HO.out.bel
        clear c2
        obtain ⟨n2, hn2⟩ : ∃ n2 : Nat, min (n + 1) 4 = n2 := ⟨_, rfl⟩
        have HJ2 : Hid (Q18.J s2 n2) := by show Q18.J s2 n2; rw [← hn2]; exact H1.out.2
        have hmin : min ((n : Int) + 1) 4 = (n2 : Int) := by omega
        have h20 : 0 < n2 := by omega
        have h24 : n2 ≤ 4 := by omega
        have HNn : Hid (0 < n2 ∧ n2 ≤ 4) := ⟨h20, h24⟩
        clear H1 hn2 h20 h24 HCe
        by_cases hlt : n < 4
        · have hlti : (n : Int) < 4 := by omega
          have hltd : decide ((n : Int) < 4) = true := decide_eq_true hlti
          rw [if_pos hlt]
          clear hlt hn4
          go_upto_region 20 with fail
          clear c3 hltd hlti hmin
          obtain ⟨r, hr⟩ : ∃ r, i % 3 = r := ⟨_, rfl⟩
          have er : (i : Int) % 3 = (r : Int) := by omega
          have tr : (i : Int).tmod 3 = (r : Int) := by rw [Int.tmod_eq_emod_of_nonneg (by omega)]; exact er
          by_cases h2 : r = 2
          · subst h2
            obtain ⟨n3, hn3⟩ : ∃ n3 : Nat, n2 - 1 = n3 := ⟨_, rfl⟩
            have e3 : (n2 : Int) - 1 = (n3 : Int) := by have := HNn.out; omega
            have hn34 : n3 ≤ 4 := by have := HNn.out; omega
            clear hr
            go_wp2_with fail
            refine (HO.out.turn (fun F hF => S.sent V _ p F _ 1 (HQ.out _ HO.out.bel) HO.out.bel (by decide) hF)).mono ?_
            rintro e w6 ⟨rfl, hq⟩
            replace HO : Hid (Oq.O1 (At V) V w6 p (Q18.sentS s2 1) []) := hq
            clear hq
            have HJ3 : Hid (Q18.J (Q18.sentS s2 1) n3) := by show Q18.J _ n3; rw [← hn3]; exact HJ2.out.sent HNn.out.1
            clear hn3
            generalize Q18.sentS s2 1 = s3 at HO HJ3
            go_wp2_with fail
            refine (HO.out.turn (fun F hF => S.waiting V _ p F _ (HQ.out _ HO.out.bel) HO.out.bel hF)).mono ?_
            rintro e w7 ⟨rfl, hq⟩
            rw [HJ3.out.len]
            have HD : Hid (∃ s, Q18.J s n3 ∧ Oq.O1 (At V) V w7 p s []) := ⟨_, HJ3.out, hq⟩
            clear hq HO HJ3
            go_wp2_with fail
            go_roundw
            case rel => exact ⟨i + 1, n3, by omega, by simp, by first | rfl | (simp; omega), hn34, HD⟩
            case measure => simp only [intOf]; omega
          · have h2b : ((r : Int) == 2) = false := beq_eq_false_iff_ne.2 (by omega)
            obtain ⟨n3, hn3⟩ : ∃ n3 : Nat, n2 = n3 := ⟨_, rfl⟩
            have hn34 : n3 ≤ 4 := by have := HNn.out; omega
            subst hn3
            have HJ3 : Hid (Q18.J s2 n2) := HJ2.out
            clear h2 hr
            go_wp2_with fail
            refine (HO.out.turn (fun F hF => S.waiting V _ p F _ (HQ.out _ HO.out.bel) HO.out.bel hF)).mono ?_
            rintro e w7 ⟨rfl, hq⟩
            rw [HJ3.out.len]
            have HD : Hid (∃ s, Q18.J s n2 ∧ Oq.O1 (At V) V w7 p s []) := ⟨_, HJ3.out, hq⟩
            clear hq HO HJ3
            go_wp2_with fail
            go_roundw
            case rel => exact ⟨i + 1, n2, by omega, by simp, by first | rfl | (simp; omega), hn34, HD⟩
            case measure => simp only [intOf]; omega
        · have hlti : ¬ ((n : Int) < 4) := by omega
          have hltd : decide ((n : Int) < 4) = false := decide_eq_false hlti
          have hn4i : (n : Int) ≤ 4 := by omega
          rw [if_neg hlt]
          clear hlt hn4
          go_upto_region 20 with fail
          clear c3 hltd hlti hmin
          obtain ⟨r, hr⟩ : ∃ r, i % 3 = r := ⟨_, rfl⟩
          have er : (i : Int) % 3 = (r : Int) := by omega
          have tr : (i : Int).tmod 3 = (r : Int) := by rw [Int.tmod_eq_emod_of_nonneg (by omega)]; exact er
          by_cases h2 : r = 2
          · subst h2
            obtain ⟨n3, hn3⟩ : ∃ n3 : Nat, n2 - 1 = n3 := ⟨_, rfl⟩
            have e3 : (n2 : Int) - 1 = (n3 : Int) := by have := HNn.out; omega
            have hn34 : n3 ≤ 4 := by have := HNn.out; omega
            clear hr
            go_wp2_with fail
            refine (HO.out.turn (fun F hF => S.sent V _ p F _ 1 (HQ.out _ HO.out.bel) HO.out.bel (by decide) hF)).mono ?_
            rintro e w6 ⟨rfl, hq⟩
            replace HO : Hid (Oq.O1 (At V) V w6 p (Q18.sentS s2 1) []) := hq
            clear hq
            have HJ3 : Hid (Q18.J (Q18.sentS s2 1) n3) := by show Q18.J _ n3; rw [← hn3]; exact HJ2.out.sent HNn.out.1
            clear hn3
            generalize Q18.sentS s2 1 = s3 at HO HJ3
            go_wp2_with fail
            refine (HO.out.turn (fun F hF => S.waiting V _ p F _ (HQ.out _ HO.out.bel) HO.out.bel hF)).mono ?_
            rintro e w7 ⟨rfl, hq⟩
            rw [HJ3.out.len]
            have HD : Hid (∃ s, Q18.J s n3 ∧ Oq.O1 (At V) V w7 p s []) := ⟨_, HJ3.out, hq⟩
            clear hq HO HJ3
            go_wp2_with fail
            go_roundw
            case rel => exact ⟨i + 1, n3, by omega, by simp, by first | rfl | (simp; omega), hn34, HD⟩
            case measure => simp only [intOf]; omega
          · have h2b : ((r : Int) == 2) = false := beq_eq_false_iff_ne.2 (by omega)
            obtain ⟨n3, hn3⟩ : ∃ n3 : Nat, n2 = n3 := ⟨_, rfl⟩
            have hn34 : n3 ≤ 4 := by have := HNn.out; omega
            subst hn3
            have HJ3 : Hid (Q18.J s2 n2) := HJ2.out
            clear h2 hr
            go_wp2_with fail
            refine (HO.out.turn (fun F hF => S.waiting V _ p F _ (HQ.out _ HO.out.bel) HO.out.bel hF)).mono ?_
            rintro e w7 ⟨rfl, hq⟩
            rw [HJ3.out.len]
            have HD : Hid (∃ s, Q18.J s n2 ∧ Oq.O1 (At V) V w7 p s []) := ⟨_, HJ3.out, hq⟩
            clear hq HO HJ3
            go_wp2_with fail
            go_roundw
            case rel => exact ⟨i + 1, n2, by omega, by simp, by first | rfl | (simp; omega), hn34, HD⟩
            case measure => simp only [intOf]; omega
    · obtain rfl : i = len0 := by omega
      have ii : ¬ ((i : Int) < (i : Int)) := by omega
      obtain ⟨s, hJ, ho⟩ := HOs.out
      have HBz : Hid (Below W.heap.size W wr) := HB0.out.trans (ho.bel.mono HB0.out.size)
      clear HEl ho HOs hJ
      go_wp2
      go_ret
      exact ⟨rfl, HBz.out⟩
end Go.Proofs.Ytkgeknkppnadfaa.objectStates
