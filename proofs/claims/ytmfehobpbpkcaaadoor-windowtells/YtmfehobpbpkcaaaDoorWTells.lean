/- WindowTells: of every matrix of few entries, cycle, unit: the window, whose it is; of a cycle its kinds, what is free (others are let by); no condition. -/
import Derived.Test.YtmfehobpbpkcaaaDoorWb
import Derived.Deep.CutBlock
import Derived.ProofKit
import Derived.OpenShut
namespace Go.Proofs.YtmfehobpbpkcaaaDoor.windowTells
open Go.ChangeShapes Go.WideShapes Go.ChangeAt Go.RowKit
set_option linter.unusedVariables false
variable {Q : World → Prop}
theorem kinds_at {m : Mx.M} (h : (Lq.check m).2 = 0) (c : Int) {k : Nat} (hk : k < m.length.toNat) : (Wq.kinds m c)[k]? = some (Wq.sgn (Wq.kindOf m c (k : Int))) := by
  unfold Wq.kinds
  rw [if_pos h, List.getElem?_map, List.getElem?_range hk]
  rfl
theorem kinds_len {m : Mx.M} (h : (Lq.check m).2 = 0) (c : Int) : (Wq.kinds m c).length = m.length.toNat := by
  unfold Wq.kinds
  rw [if_pos h, List.length_map, List.length_range]
theorem free_step {f : Nat → Bool} (k : Nat) : (List.range (k + 1)).countP f = (List.range k).countP f + (if f k then 1 else 0) := by
  rw [List.range_succ, List.countP_append]
  simp [List.countP_cons]
set_option maxRecDepth 100000 in
set_option maxHeartbeats 8000000 in
theorem walkA (hQ : ∀ w w', Q w → Below w.heap.size w w' → Q w') (S : WinSpec Q) (m : Mx.M) (a : Ma) (c u : Int) {W0 : World} (hm : MIn W0 m a) (hwf : Mx.Wf m) (h1 : (Lit.int .i64 c).wf = true) (h2 : (Lit.int .i64 u).wf = true) (W : World) (hw0 : W = W0) (hW : Q W) :
    Calls Tryd.prog 3 #[mV m a, .int .i64 c, .int .i64 u] W fun e w' => e = .returned (.bool true) ∧ Below W.heap.size W w' := by
  subst hw0
  have HQ : Hid (∀ w, Below W.heap.size W w → Q w) := fun w hb => hQ W w hW hb
  have HK : Hid (∀ w, Below W.heap.size W w → Calls Tryd.prog 6 #[] w fun e w' => e = .returned (.bool true) ∧ Below w.heap.size w w') := fun w hb => known16_any hQ S w (HQ.out _ hb)
  have HAt : Hid (∀ (w : World) (c u r : Int), Bx W w W.heap.size m a → Mx.Small m → (Lit.int .i64 c).wf = true → (Lit.int .i64 u).wf = true → Wq.atW m c u = r → Calls Tryd.prog 9 #[mV m a, .int .i64 c, .int .i64 u] w fun e w' => e = .returned (.int .i64 r) ∧ Below w.heap.size w w') := fun w c u r h hs h1 h2 hr => by subst hr; exact S.at_ w m a c u (HQ.out _ h.below) h.mem hs hwf h1 h2
  have HOw : Hid (∀ (w : World) (c u r : Int), Bx W w W.heap.size m a → Mx.Small m → (Lit.int .i64 c).wf = true → (Lit.int .i64 u).wf = true → Wq.owner m c u = r → Calls Tryd.prog 10 #[mV m a, .int .i64 c, .int .i64 u] w fun e w' => e = .returned (.int .i64 r) ∧ Below w.heap.size w w') := fun w c u r h hs h1 h2 hr => by subst hr; exact S.owner w m a c u (HQ.out _ h.below) h.mem hs hwf h1 h2
  have HFr : Hid (∀ (w : World) (c : Int) (n : Nat), Bx W w W.heap.size m a → Mx.Small m → (Lit.int .i64 c).wf = true → Wq.free m c = n → Calls Tryd.prog 13 #[mV m a, .int .i64 c] w fun e w' => e = .returned (.int .i64 (n : Int)) ∧ Below w.heap.size w w') := fun w c n h hs h1 hn => by subst hn; exact S.free w m a c (HQ.out _ h.below) h.mem hs hwf h1
  have HKi : Hid (∀ (w : World) (c : Int) (l : List UInt8), Bx W w W.heap.size m a → Mx.Small m → (Lit.int .i64 c).wf = true → Wq.kinds m c = l → Calls Tryd.prog 12 #[mV m a, .int .i64 c] w fun e w' => e = .returned (.string ⟨l.toArray⟩) ∧ Below w.heap.size w w') := fun w c l h hs h1 hl => by subst hl; exact S.kinds w m a c (HQ.out _ h.below) h.mem hs hwf h1
  have HRa : Hid (∀ (w : World) (c u r : Int), Bx W w W.heap.size m a → Mx.Small m → (Lit.int .i64 c).wf = true → Wq.atW m c u = r → Calls Tryd.prog 8 #[mV m a, .int .i64 c, .int .i64 u] w fun e w' => e = .returned (.int .i64 r) ∧ Below w.heap.size w w') := fun w c u r h hs h1 hr => by subst hr; exact rat_any w m a c u h.mem hs hwf h1
  have HCk : Hid (∀ w, Bx W w W.heap.size m a → Mx.Small m → Calls Tryd.prog 11 #[mV m a] w fun e w' => e = .returned (.tuple #[.int .i64 (Lq.check m).1, .int .i64 (Lq.check m).2]) ∧ Below w.heap.size w w') := fun w h hs => rcheck_any w m a h.mem hs hwf
  have HW1 : Hid ((Lit.int .i64 c).wf = true) := h1
  have HW2 : Hid ((Lit.int .i64 u).wf = true) := h2
  have HX : Hid (Bx W (W.alloc (.cells (mCs m a) 27)) W.heap.size m a) := Bx.mk' hm
  clear hm hQ hW
  go_enter Tryd.func3, Tryd.ntmps3
  clear h1 h2 hwf
  go_wp2_with fail
  refine (HK.out _ HX.out.below).mono ?_
  rintro e w1 ⟨rfl, hb⟩
  replace HX : Hid (Bx W w1 W.heap.size m a) := HX.out.on hb
  clear hb HK
  obtain ⟨y0, y1, y2, y3, y4, y5, y6, y7, y8, y9, y10⟩ := HX.out.row.mat
  go_wp2_with fail
  refine (few16_any w1 m a).mono ?_
  rintro e w2 ⟨rfl, hb⟩
  replace HX : Hid (Bx W w2 W.heap.size m a) := HX.out.on hb
  clear y0 y1 y10 y2 y3 y4 y5 y6 y7 y8 y9
  clear hb
  cases hfw : Mx.few m
  · go_wp2
    go_ret
    exact ⟨rfl, HX.out.below⟩
  have HS : Hid (Mx.Small m) := Mx.few_small hfw
  clear hfw
  obtain ⟨ck, hck⟩ : ∃ z, (Lq.check m).2 = z := ⟨_, rfl⟩
  have HCz : Hid ((Lq.check m).2 = ck) := hck
  rw [hck] at HCk
  clear hck
  generalize (Lq.check m).1 = ck1 at HCk
  by_cases hc0 : ck = 0
  rotate_left
  · have hat : ∀ u, Wq.atW m c u = -1 := fun u => Wq.at_fail (by rw [HCz.out]; exact hc0) c u
    have how : Wq.owner m c u = -1 := by unfold Wq.owner; rw [hat]; rfl
    have hfr : Wq.free m c = 0 := by unfold Wq.free; rw [HCz.out, if_neg hc0]
    have hki : Wq.kinds m c = [] := by unfold Wq.kinds; rw [HCz.out, if_neg hc0]
    have hcb : (ck != 0) = true := bne_iff_ne.2 hc0
    have HAe : Hid (Wq.atW m c u = -1) := hat u
    have HOe : Hid (Wq.owner m c u = -1) := how
    have HFe : Hid (Wq.free m c = 0) := hfr
    have HKe : Hid (Wq.kinds m c = []) := hki
    clear hat how hfr hki hc0
    obtain ⟨y0, y1, y2, y3, y4, y5, y6, y7, y8, y9, y10⟩ := HX.out.row.mat
    go_wp2_with fail
    refine (HRa.out _ c u (-1) HX.out HS.out HW1.out HAe.out).mono ?_
    rintro e w3 ⟨rfl, hb⟩
    replace HX : Hid (Bx W w3 W.heap.size m a) := HX.out.on hb
    clear y0 y1 y10 y2 y3 y4 y5 y6 y7 y8 y9
    clear hb
    obtain ⟨y0, y1, y2, y3, y4, y5, y6, y7, y8, y9, y10⟩ := HX.out.row.mat
    go_wp2_with fail
    refine (HAt.out _ c u (-1) HX.out HS.out HW1.out HW2.out HAe.out).mono ?_
    rintro e w4 ⟨rfl, hb⟩
    replace HX : Hid (Bx W w4 W.heap.size m a) := HX.out.on hb
    clear y0 y1 y10 y2 y3 y4 y5 y6 y7 y8 y9
    clear hb
    obtain ⟨y0, y1, y2, y3, y4, y5, y6, y7, y8, y9, y10⟩ := HX.out.row.mat
    go_wp2_with fail
    refine (HOw.out _ c u (-1) HX.out HS.out HW1.out HW2.out HOe.out).mono ?_
    rintro e w5 ⟨rfl, hb⟩
    replace HX : Hid (Bx W w5 W.heap.size m a) := HX.out.on hb
    clear y0 y1 y10 y2 y3 y4 y5 y6 y7 y8 y9
    clear hb
    obtain ⟨y0, y1, y2, y3, y4, y5, y6, y7, y8, y9, y10⟩ := HX.out.row.mat
    go_wp2_with fail
    refine (HCk.out _ HX.out HS.out).mono ?_
    rintro e w6 ⟨rfl, hb⟩
    replace HX : Hid (Bx W w6 W.heap.size m a) := HX.out.on hb
    clear y0 y1 y10 y2 y3 y4 y5 y6 y7 y8 y9
    clear hb
    obtain ⟨y0, y1, y2, y3, y4, y5, y6, y7, y8, y9, y10⟩ := HX.out.row.mat
    go_wp2_with fail
    refine (HKi.out _ c [] HX.out HS.out HW1.out HKe.out).mono ?_
    rintro e w7 ⟨rfl, hb⟩
    replace HX : Hid (Bx W w7 W.heap.size m a) := HX.out.on hb
    clear y0 y1 y10 y2 y3 y4 y5 y6 y7 y8 y9
    clear hb
    obtain ⟨y0, y1, y2, y3, y4, y5, y6, y7, y8, y9, y10⟩ := HX.out.row.mat
    go_wp2_with fail
    refine (HFr.out _ c 0 HX.out HS.out HW1.out HFe.out).mono ?_
    rintro e w8 ⟨rfl, hb⟩
    replace HX : Hid (Bx W w8 W.heap.size m a) := HX.out.on hb
    clear y0 y1 y10 y2 y3 y4 y5 y6 y7 y8 y9
    clear hb
    go_wp2
    go_ret
    exact ⟨rfl, HX.out.below⟩
  subst hc0
  have HP : Hid (Lq.Passes m) := Lq.passes_of HCz.out
  rcases Wq.at_cases HCz.out c u with ⟨hat, hgw, _⟩ | ⟨i, x, hat, hgw, hx, _⟩
  · have HOe : Hid (Wq.owner m c u = -1) := by show _ = _; unfold Wq.owner; rw [hgw]
    have HAe : Hid (Wq.atW m c u = -1) := hat
    clear hat hgw
    obtain ⟨y0, y1, y2, y3, y4, y5, y6, y7, y8, y9, y10⟩ := HX.out.row.mat
    go_wp2_with fail
    refine (HRa.out _ c u (-1) HX.out HS.out HW1.out HAe.out).mono ?_
    rintro e w3 ⟨rfl, hb⟩
    replace HX : Hid (Bx W w3 W.heap.size m a) := HX.out.on hb
    clear y0 y1 y10 y2 y3 y4 y5 y6 y7 y8 y9
    clear hb
    obtain ⟨y0, y1, y2, y3, y4, y5, y6, y7, y8, y9, y10⟩ := HX.out.row.mat
    go_wp2_with fail
    refine (HAt.out _ c u (-1) HX.out HS.out HW1.out HW2.out HAe.out).mono ?_
    rintro e w4 ⟨rfl, hb⟩
    replace HX : Hid (Bx W w4 W.heap.size m a) := HX.out.on hb
    clear y0 y1 y10 y2 y3 y4 y5 y6 y7 y8 y9
    clear hb
    obtain ⟨y0, y1, y2, y3, y4, y5, y6, y7, y8, y9, y10⟩ := HX.out.row.mat
    go_wp2_with fail
    refine (HOw.out _ c u (-1) HX.out HS.out HW1.out HW2.out HOe.out).mono ?_
    rintro e w5 ⟨rfl, hb⟩
    replace HX : Hid (Bx W w5 W.heap.size m a) := HX.out.on hb
    clear y0 y1 y10 y2 y3 y4 y5 y6 y7 y8 y9
    clear hb
    obtain ⟨y0, y1, y2, y3, y4, y5, y6, y7, y8, y9, y10⟩ := HX.out.row.mat
    go_wp2_with fail
    refine (HCk.out _ HX.out HS.out).mono ?_
    rintro e w6 ⟨rfl, hb⟩
    replace HX : Hid (Bx W w6 W.heap.size m a) := HX.out.on hb
    clear y0 y1 y10 y2 y3 y4 y5 y6 y7 y8 y9
    clear hb
    obtain ⟨y0, y1, y2, y3, y4, y5, y6, y7, y8, y9, y10⟩ := HX.out.row.mat
    go_wp2_with fail
    refine (HKi.out _ c _ HX.out HS.out HW1.out rfl).mono ?_
    rintro e w7 ⟨rfl, hb⟩
    replace HX : Hid (Bx W w7 W.heap.size m a) := HX.out.on hb
    clear y0 y1 y10 y2 y3 y4 y5 y6 y7 y8 y9
    clear hb
    have HKl := kinds_len HCz.out c
    have HKa : Hid (∀ k, k < m.length.toNat → (Wq.kinds m c)[k]? = some (Wq.sgn (Wq.kindOf m c (k : Int)))) := fun k hk => kinds_at HCz.out c hk
    generalize hks : Wq.kinds m c = ks at HKl HKa ⊢
    clear hks
    have hlr := Lq.cyc_of HP.out.is
    obtain ⟨_, _, ln1, ln2, _⟩ := hlr
    obtain ⟨L, hL⟩ : ∃ L : Nat, m.length.toNat = L := ⟨_, rfl⟩
    rw [hL] at HKl HKa
    have HLe : Hid (m.length = (L : Int)) := by show _ = _; omega
    have hsz : (((⟨ks.toArray⟩ : ByteArray).size : Nat) : Int) = m.length := by have := HLe.out; show ((ks.toArray.size : Nat) : Int) = _; rw [List.size_toArray, HKl]; exact this.symm
    clear hL HKl
    obtain ⟨_, _, _, y3, _, _, _, _, _, _, _⟩ := HX.out.row.mat
    generalize hKS : (⟨ks.toArray⟩ : ByteArray) = KS at hsz ⊢
    have HKb : Hid (∀ k, k < L → ∃ h : k < KS.size, KS[k] = Wq.sgn (Wq.kindOf m c (k : Int))) := fun k hk => by
      have := HKa.out k hk
      obtain ⟨h1, h2⟩ := List.getElem?_eq_some_iff.1 this
      subst hKS
      exact ⟨h1, h2⟩
    clear HKa hKS
    go_upto_block 0 with fail
    go_wp2_with fail
    go_loopw [13, 12, 14, 15] (fun vi vf _ _ wr => ∃ k F : Nat, k ≤ L ∧ F ≤ k ∧ vi = .int .i64 (k : Int) ∧ vf = .int .i64 (F : Int) ∧ Hid (Bx W wr W.heap.size m a) ∧ Hid (F = (List.range k).countP (fun u : Nat => Wq.loose (Wq.kindOf m c (u : Int))))) (fun vi _ _ _ _ => L - (intOf vi).toNat)
    case atStart => exact ⟨0, 0, Nat.zero_le _, Nat.le_refl _, rfl, rfl, HX, rfl⟩
    case round =>
      clear HX
      obtain ⟨k, F, hk, hFk, rfl, rfl, HX, HF⟩ := hrel
      obtain ⟨y0, y1, y2, y3, y4, y5, y6, y7, y8, y9, y10⟩ := HX.out.row.mat
      by_cases hkl : k < L
      · have ki : (k : Int) < m.length := by have := HLe.out; omega
        have kb : (k : Int) < 4000 := by omega
        have fb : (F : Int) < 4000 := by omega
        have HW3 : Hid ((Lit.int .i64 (k : Int)).wf = true) := wfi (by omega)
        obtain ⟨hks, hkv⟩ := HKb.out k hkl
        have hkz : (k : Int) < (KS.size : Int) := by rw [hsz]; exact ki
        have HFs := free_step (f := fun u : Nat => Wq.loose (Wq.kindOf m c (u : Int))) k
        rw [← HF.out] at HFs
        rcases Wq.at_cases HCz.out c (k : Int) with ⟨hat, hgw, _⟩ | ⟨i, x, hat, hgw, hx, _⟩
        · have hkd : Wq.kindOf m c (k : Int) = 0 := by unfold Wq.kindOf; rw [hgw]
          rw [hkd] at hkv HFs
          have HF2 : Hid (F + 1 = (List.range (k + 1)).countP (fun u : Nat => Wq.loose (Wq.kindOf m c (u : Int)))) := HFs.symm
          have HAk := HRa.out wr c (k : Int) (-1) HX.out HS.out HW1.out hat
          have hkv2 : ((KS[k].toNat : Int) != 45) = false := by rw [hkv]; rfl
          clear hat hgw hkd HFs HF hkv
          go_wp2_with fail
          refine HAk.mono ?_
          rintro e w9 ⟨rfl, hb⟩
          replace HX : Hid (Bx W w9 W.heap.size m a) := HX.out.on hb
          clear hb HAk y0 y1 y2 y3 y4 y5 y6 y7 y8 y9 y10
          go_wp2_with fail
          go_roundw
          case rel => exact ⟨k + 1, F + 1, by omega, by omega, rfl, rfl, HX, HF2⟩
          case measure => simp only [intOf]; omega
        · have hkd : Wq.kindOf m c (k : Int) = x.kind := by unfold Wq.kindOf; rw [hgw]
          have hil : i < m.windows.length := (List.getElem?_eq_some_iff.1 hx).1
          have ii : (i : Int) < (m.windows.length : Int) := by omega
          have ib : (i : Int) < 1000 := by have := HS.out.c; omega
          have hcs : x.kind = 1 ∨ x.kind = 2 ∨ x.kind = 3 := by have := (Lq.wx_of HP.out hx).kind; omega
          have HXi : Hid (m.windows[i]? = some x) := hx
          rw [hkd] at hkv HFs
          have HAk := HRa.out wr c (k : Int) (i : Int) HX.out HS.out HW1.out hat
          have ig : (0 : Int) ≤ (i : Int) := by omega
          clear hat hgw hkd hx hil
          go_wp2_with fail
          refine HAk.mono ?_
          rintro e w9 ⟨rfl, hb⟩
          replace HX : Hid (Bx W w9 W.heap.size m a) := HX.out.on hb
          clear hb HAk y0 y1 y2 y3 y4 y5 y6 y7 y8 y9 y10
          obtain ⟨gw, ow, hs, _, c0, _⟩ := HX.out.mem.window HXi.out
          have y10 := HX.out.row.mat.2.2.2.2.2.2.2.2.2.2
          rw [hs] at y10
          clear hs
          rcases hcs with h | h | h
          · rw [h] at c0 hkv HFs
            have HF2 : Hid (F = (List.range (k + 1)).countP (fun u : Nat => Wq.loose (Wq.kindOf m c (u : Int)))) := HFs.symm
            have hkv2 : ((KS[k].toNat : Int) != 69) = false := by rw [hkv]; rfl
            have ec : (((⟨#[69, 65, 70]⟩ : ByteArray)[0]'(by decide)).toNat : Int) = 69 := by decide
            clear HFs HF hkv h
            go_wp2_with fail
            go_roundw
            case rel => exact ⟨k + 1, F, by omega, by omega, rfl, rfl, HX, HF2⟩
            case measure => simp only [intOf]; omega
          · rw [h] at c0 hkv HFs
            have HF2 : Hid (F = (List.range (k + 1)).countP (fun u : Nat => Wq.loose (Wq.kindOf m c (u : Int)))) := HFs.symm
            have hkv2 : ((KS[k].toNat : Int) != 65) = false := by rw [hkv]; rfl
            have ec : (((⟨#[69, 65, 70]⟩ : ByteArray)[1]'(by decide)).toNat : Int) = 65 := by decide
            clear HFs HF hkv h
            go_wp2_with fail
            go_roundw
            case rel => exact ⟨k + 1, F, by omega, by omega, rfl, rfl, HX, HF2⟩
            case measure => simp only [intOf]; omega
          · rw [h] at c0 hkv HFs
            have HF2 : Hid (F + 1 = (List.range (k + 1)).countP (fun u : Nat => Wq.loose (Wq.kindOf m c (u : Int)))) := HFs.symm
            have hkv2 : ((KS[k].toNat : Int) != 70) = false := by rw [hkv]; rfl
            have ec : (((⟨#[69, 65, 70]⟩ : ByteArray)[2]'(by decide)).toNat : Int) = 70 := by decide
            clear HFs HF hkv h
            go_wp2_with fail
            go_roundw
            case rel => exact ⟨k + 1, F + 1, by omega, by omega, rfl, rfl, HX, HF2⟩
            case measure => simp only [intOf]; omega
      · obtain rfl : k = L := by omega
        have ki : ¬ ((k : Int) < m.length) := by have := HLe.out; omega
        have HFe : Hid (Wq.free m c = F) := by
          show _ = _
          unfold Wq.free
          rw [if_pos HCz.out, HLe.out, Int.toNat_natCast, ← HF.out]
        go_wp2_with fail
        refine (HFr.out _ c F HX.out HS.out HW1.out HFe.out).mono ?_
        rintro e w9 ⟨rfl, hb⟩
        replace HX : Hid (Bx W w9 W.heap.size m a) := HX.out.on hb
        clear hb
        go_wp2
        go_ret
        exact ⟨rfl, HX.out.below⟩
  · have HAe : Hid (Wq.atW m c u = (i : Int)) := hat
    have wx := Lq.wx_of HP.out hx
    have HXi : Hid (m.windows[i]? = some x) := hx
    have hil : i < m.windows.length := (List.getElem?_eq_some_iff.1 hx).1
    have ii : (i : Int) < (m.windows.length : Int) := by omega
    have ib : (i : Int) < 1000 := by have := HS.out.c; omega
    have ig : (0 : Int) ≤ (i : Int) := by omega
    have HGw : Hid (Lq.getW m (Wq.atW m c u) = some x) := hgw
    clear hat hgw hx hil
    obtain ⟨y0, y1, y2, y3, y4, y5, y6, y7, y8, y9, y10⟩ := HX.out.row.mat
    go_wp2_with fail
    refine (HRa.out _ c u (i : Int) HX.out HS.out HW1.out HAe.out).mono ?_
    rintro e w3 ⟨rfl, hb⟩
    replace HX : Hid (Bx W w3 W.heap.size m a) := HX.out.on hb
    clear y0 y1 y10 y2 y3 y4 y5 y6 y7 y8 y9
    clear hb
    obtain ⟨gw, ow, hs, _, c0, _⟩ := HX.out.mem.window HXi.out
    have y10 := HX.out.row.mat.2.2.2.2.2.2.2.2.2.2
    rw [hs] at y10
    by_cases hk1 : x.kind = 1
    rotate_left
    · have hkb : (x.kind == 1) = false := by simpa using hk1
      have HOe : Hid (Wq.owner m c u = -1) := by show _ = _; unfold Wq.owner; rw [HGw.out]; exact if_neg hk1
      clear hs wx hk1
      go_upto_region 9 with fail
      clear y10 c0 hkb ii ib ig
      obtain ⟨y0, y1, y2, y3, y4, y5, y6, y7, y8, y9, y10⟩ := HX.out.row.mat
      go_wp2_with fail
      refine (HAt.out _ c u (i : Int) HX.out HS.out HW1.out HW2.out HAe.out).mono ?_
      rintro e w4 ⟨rfl, hb⟩
      replace HX : Hid (Bx W w4 W.heap.size m a) := HX.out.on hb
      clear y0 y1 y10 y2 y3 y4 y5 y6 y7 y8 y9
      clear hb
      obtain ⟨y0, y1, y2, y3, y4, y5, y6, y7, y8, y9, y10⟩ := HX.out.row.mat
      go_wp2_with fail
      refine (HOw.out _ c u (-1) HX.out HS.out HW1.out HW2.out HOe.out).mono ?_
      rintro e w5 ⟨rfl, hb⟩
      replace HX : Hid (Bx W w5 W.heap.size m a) := HX.out.on hb
      clear y0 y1 y10 y2 y3 y4 y5 y6 y7 y8 y9
      clear hb
      obtain ⟨y0, y1, y2, y3, y4, y5, y6, y7, y8, y9, y10⟩ := HX.out.row.mat
      go_wp2_with fail
      refine (HCk.out _ HX.out HS.out).mono ?_
      rintro e w6 ⟨rfl, hb⟩
      replace HX : Hid (Bx W w6 W.heap.size m a) := HX.out.on hb
      clear y0 y1 y10 y2 y3 y4 y5 y6 y7 y8 y9
      clear hb
      obtain ⟨y0, y1, y2, y3, y4, y5, y6, y7, y8, y9, y10⟩ := HX.out.row.mat
      go_wp2_with fail
      refine (HKi.out _ c _ HX.out HS.out HW1.out rfl).mono ?_
      rintro e w7 ⟨rfl, hb⟩
      replace HX : Hid (Bx W w7 W.heap.size m a) := HX.out.on hb
      clear y0 y1 y10 y2 y3 y4 y5 y6 y7 y8 y9
      clear hb
      have HKl := kinds_len HCz.out c
      have HKa : Hid (∀ k, k < m.length.toNat → (Wq.kinds m c)[k]? = some (Wq.sgn (Wq.kindOf m c (k : Int)))) := fun k hk => kinds_at HCz.out c hk
      generalize hks : Wq.kinds m c = ks at HKl HKa ⊢
      clear hks
      have hlr := Lq.cyc_of HP.out.is
      obtain ⟨_, _, ln1, ln2, _⟩ := hlr
      obtain ⟨L, hL⟩ : ∃ L : Nat, m.length.toNat = L := ⟨_, rfl⟩
      rw [hL] at HKl HKa
      have HLe : Hid (m.length = (L : Int)) := by show _ = _; omega
      have hsz : (((⟨ks.toArray⟩ : ByteArray).size : Nat) : Int) = m.length := by have := HLe.out; show ((ks.toArray.size : Nat) : Int) = _; rw [List.size_toArray, HKl]; exact this.symm
      clear hL HKl
      obtain ⟨_, _, _, y3, _, _, _, _, _, _, _⟩ := HX.out.row.mat
      generalize hKS : (⟨ks.toArray⟩ : ByteArray) = KS at hsz ⊢
      have HKb : Hid (∀ k, k < L → ∃ h : k < KS.size, KS[k] = Wq.sgn (Wq.kindOf m c (k : Int))) := fun k hk => by
        have := HKa.out k hk
        obtain ⟨h1, h2⟩ := List.getElem?_eq_some_iff.1 this
        subst hKS
        exact ⟨h1, h2⟩
      clear HKa hKS
      go_upto_block 0 with fail
      go_wp2_with fail
      go_loopw [13, 12, 14, 15] (fun vi vf _ _ wr => ∃ k F : Nat, k ≤ L ∧ F ≤ k ∧ vi = .int .i64 (k : Int) ∧ vf = .int .i64 (F : Int) ∧ Hid (Bx W wr W.heap.size m a) ∧ Hid (F = (List.range k).countP (fun u : Nat => Wq.loose (Wq.kindOf m c (u : Int))))) (fun vi _ _ _ _ => L - (intOf vi).toNat)
      case atStart => exact ⟨0, 0, Nat.zero_le _, Nat.le_refl _, rfl, rfl, HX, rfl⟩
      case round =>
        clear HX
        obtain ⟨k, F, hk, hFk, rfl, rfl, HX, HF⟩ := hrel
        obtain ⟨y0, y1, y2, y3, y4, y5, y6, y7, y8, y9, y10⟩ := HX.out.row.mat
        by_cases hkl : k < L
        · have ki : (k : Int) < m.length := by have := HLe.out; omega
          have kb : (k : Int) < 4000 := by omega
          have fb : (F : Int) < 4000 := by omega
          have HW3 : Hid ((Lit.int .i64 (k : Int)).wf = true) := wfi (by omega)
          obtain ⟨hks, hkv⟩ := HKb.out k hkl
          have hkz : (k : Int) < (KS.size : Int) := by rw [hsz]; exact ki
          have HFs := free_step (f := fun u : Nat => Wq.loose (Wq.kindOf m c (u : Int))) k
          rw [← HF.out] at HFs
          rcases Wq.at_cases HCz.out c (k : Int) with ⟨hat, hgw, _⟩ | ⟨i, x, hat, hgw, hx, _⟩
          · have hkd : Wq.kindOf m c (k : Int) = 0 := by unfold Wq.kindOf; rw [hgw]
            rw [hkd] at hkv HFs
            have HF2 : Hid (F + 1 = (List.range (k + 1)).countP (fun u : Nat => Wq.loose (Wq.kindOf m c (u : Int)))) := HFs.symm
            have HAk := HRa.out wr c (k : Int) (-1) HX.out HS.out HW1.out hat
            have hkv2 : ((KS[k].toNat : Int) != 45) = false := by rw [hkv]; rfl
            clear hat hgw hkd HFs HF hkv
            go_wp2_with fail
            refine HAk.mono ?_
            rintro e w9 ⟨rfl, hb⟩
            replace HX : Hid (Bx W w9 W.heap.size m a) := HX.out.on hb
            clear hb HAk y0 y1 y2 y3 y4 y5 y6 y7 y8 y9 y10
            go_wp2_with fail
            go_roundw
            case rel => exact ⟨k + 1, F + 1, by omega, by omega, rfl, rfl, HX, HF2⟩
            case measure => simp only [intOf]; omega
          · have hkd : Wq.kindOf m c (k : Int) = x.kind := by unfold Wq.kindOf; rw [hgw]
            have hil : i < m.windows.length := (List.getElem?_eq_some_iff.1 hx).1
            have ii : (i : Int) < (m.windows.length : Int) := by omega
            have ib : (i : Int) < 1000 := by have := HS.out.c; omega
            have hcs : x.kind = 1 ∨ x.kind = 2 ∨ x.kind = 3 := by have := (Lq.wx_of HP.out hx).kind; omega
            have HXi : Hid (m.windows[i]? = some x) := hx
            rw [hkd] at hkv HFs
            have HAk := HRa.out wr c (k : Int) (i : Int) HX.out HS.out HW1.out hat
            have ig : (0 : Int) ≤ (i : Int) := by omega
            clear hat hgw hkd hx hil
            go_wp2_with fail
            refine HAk.mono ?_
            rintro e w9 ⟨rfl, hb⟩
            replace HX : Hid (Bx W w9 W.heap.size m a) := HX.out.on hb
            clear hb HAk y0 y1 y2 y3 y4 y5 y6 y7 y8 y9 y10
            obtain ⟨gw, ow, hs, _, c0, _⟩ := HX.out.mem.window HXi.out
            have y10 := HX.out.row.mat.2.2.2.2.2.2.2.2.2.2
            rw [hs] at y10
            clear hs
            rcases hcs with h | h | h
            · rw [h] at c0 hkv HFs
              have HF2 : Hid (F = (List.range (k + 1)).countP (fun u : Nat => Wq.loose (Wq.kindOf m c (u : Int)))) := HFs.symm
              have hkv2 : ((KS[k].toNat : Int) != 69) = false := by rw [hkv]; rfl
              have ec : (((⟨#[69, 65, 70]⟩ : ByteArray)[0]'(by decide)).toNat : Int) = 69 := by decide
              clear HFs HF hkv h
              go_wp2_with fail
              go_roundw
              case rel => exact ⟨k + 1, F, by omega, by omega, rfl, rfl, HX, HF2⟩
              case measure => simp only [intOf]; omega
            · rw [h] at c0 hkv HFs
              have HF2 : Hid (F = (List.range (k + 1)).countP (fun u : Nat => Wq.loose (Wq.kindOf m c (u : Int)))) := HFs.symm
              have hkv2 : ((KS[k].toNat : Int) != 65) = false := by rw [hkv]; rfl
              have ec : (((⟨#[69, 65, 70]⟩ : ByteArray)[1]'(by decide)).toNat : Int) = 65 := by decide
              clear HFs HF hkv h
              go_wp2_with fail
              go_roundw
              case rel => exact ⟨k + 1, F, by omega, by omega, rfl, rfl, HX, HF2⟩
              case measure => simp only [intOf]; omega
            · rw [h] at c0 hkv HFs
              have HF2 : Hid (F + 1 = (List.range (k + 1)).countP (fun u : Nat => Wq.loose (Wq.kindOf m c (u : Int)))) := HFs.symm
              have hkv2 : ((KS[k].toNat : Int) != 70) = false := by rw [hkv]; rfl
              have ec : (((⟨#[69, 65, 70]⟩ : ByteArray)[2]'(by decide)).toNat : Int) = 70 := by decide
              clear HFs HF hkv h
              go_wp2_with fail
              go_roundw
              case rel => exact ⟨k + 1, F + 1, by omega, by omega, rfl, rfl, HX, HF2⟩
              case measure => simp only [intOf]; omega
        · obtain rfl : k = L := by omega
          have ki : ¬ ((k : Int) < m.length) := by have := HLe.out; omega
          have HFe : Hid (Wq.free m c = F) := by
            show _ = _
            unfold Wq.free
            rw [if_pos HCz.out, HLe.out, Int.toNat_natCast, ← HF.out]
          go_wp2_with fail
          refine (HFr.out _ c F HX.out HS.out HW1.out HFe.out).mono ?_
          rintro e w9 ⟨rfl, hb⟩
          replace HX : Hid (Bx W w9 W.heap.size m a) := HX.out.on hb
          clear hb
          go_wp2
          go_ret
          exact ⟨rfl, HX.out.below⟩
    obtain ⟨km, y, hmk, hy, _⟩ := wx.ms hk1
    have HOe : Hid (Wq.owner m c u = y.owner) := by
      show _ = _
      unfold Wq.owner
      rw [HGw.out]
      show (if x.kind = 1 then _ else _) = _
      rw [if_pos hk1]
      unfold Lq.noMsg.getMsg
      rw [hmk, if_pos (Int.natCast_nonneg _), Int.toNat_natCast, hy]
    have hml : km < m.messages.length := (List.getElem?_eq_some_iff.1 hy).1
    have mi : (km : Int) < (m.messages.length : Int) := by omega
    have mb : (km : Int) < 1000 := by have := HS.out.b; omega
    obtain ⟨gm, om, hsm, _⟩ := HX.out.mem.message hy
    rw [hk1] at c0
    have HA : Hid (∀ w', Below w3.heap.size w3 w' → w'.cell? ⟨W.heap.size, 9, none⟩ = some (.slice (some ⟨gm, om, none⟩) m.messages.length a.c2) ∧ w'.cell? ⟨W.heap.size, 10, none⟩ = some (.slice (some ⟨gw, ow, none⟩) m.windows.length a.c3) ∧ w'.cell? ⟨gw, ow + i * 6 + 5, none⟩ = some (.int .i64 (km : Int)) ∧ w'.cell? ⟨gm, om + km * 3 + 1, none⟩ = some (.int .i64 y.owner)) := fun w' hb => by
      have h9 := (HX.out.on hb).row.mat.2.2.2.2.2.2.2.2.2.1
      have h10 := (HX.out.on hb).row.mat.2.2.2.2.2.2.2.2.2.2
      obtain ⟨g1, o1, e1, _, _, _, _, _, _, q5⟩ := (HX.out.on hb).mem.window HXi.out
      obtain ⟨g2, o2, e2, _, _, q1, _⟩ := (HX.out.on hb).mem.message hy
      rw [hs] at e1 h10
      rw [hsm] at e2 h9
      injection e1 with e1
      injection e1 with e1 e1o
      injection e2 with e2
      injection e2 with e2 e2o
      subst e1 e1o e2 e2o
      rw [hmk] at q5
      exact ⟨h9, h10, q5, q1⟩
    clear hs hsm wx hk1 hmk hy hml
    go_wp2_with fail
    refine Lw.wp_region_quiet_below (by kernel_rfl) (by kernel_rfl) ?_
    repeat (first
      | go_big_quiet_skip
      | (go_big_quiet_want; go_big_quiet_op; go_big_quiet_on)
      | (go_big_quiet_want; go_big_quiet_op; apply Exists.intro; refine ⟨fun _ hb' => ?_, ?_⟩; (first
        | exact Lw.val_rfl _
        | (simp [go_sem, (HA.out _ hb').1]; rfl)
        | (simp [go_sem, (HA.out _ hb').2.1]; rfl)
        | (simp [go_sem, (HA.out _ hb').2.2.1]; rfl)
        | (simp [go_sem, (HA.out _ hb').2.2.2]; rfl)); go_big_quiet_on))
    refine wpQuiet_nil ?_
    intro wz hb
    replace HX : Hid (Bx W wz W.heap.size m a) := HX.out.on hb
    clear hb HA y10 c0 ii ib ig mi mb
    go_upto_region 9 with fail
    obtain ⟨y0, y1, y2, y3, y4, y5, y6, y7, y8, y9, y10⟩ := HX.out.row.mat
    go_wp2_with fail
    refine (HAt.out _ c u (i : Int) HX.out HS.out HW1.out HW2.out HAe.out).mono ?_
    rintro e w4 ⟨rfl, hb⟩
    replace HX : Hid (Bx W w4 W.heap.size m a) := HX.out.on hb
    clear y0 y1 y10 y2 y3 y4 y5 y6 y7 y8 y9
    clear hb
    obtain ⟨y0, y1, y2, y3, y4, y5, y6, y7, y8, y9, y10⟩ := HX.out.row.mat
    go_wp2_with fail
    refine (HOw.out _ c u y.owner HX.out HS.out HW1.out HW2.out HOe.out).mono ?_
    rintro e w5 ⟨rfl, hb⟩
    replace HX : Hid (Bx W w5 W.heap.size m a) := HX.out.on hb
    clear y0 y1 y10 y2 y3 y4 y5 y6 y7 y8 y9
    clear hb
    obtain ⟨y0, y1, y2, y3, y4, y5, y6, y7, y8, y9, y10⟩ := HX.out.row.mat
    go_wp2_with fail
    refine (HCk.out _ HX.out HS.out).mono ?_
    rintro e w6 ⟨rfl, hb⟩
    replace HX : Hid (Bx W w6 W.heap.size m a) := HX.out.on hb
    clear y0 y1 y10 y2 y3 y4 y5 y6 y7 y8 y9
    clear hb
    obtain ⟨y0, y1, y2, y3, y4, y5, y6, y7, y8, y9, y10⟩ := HX.out.row.mat
    go_wp2_with fail
    refine (HKi.out _ c _ HX.out HS.out HW1.out rfl).mono ?_
    rintro e w7 ⟨rfl, hb⟩
    replace HX : Hid (Bx W w7 W.heap.size m a) := HX.out.on hb
    clear y0 y1 y10 y2 y3 y4 y5 y6 y7 y8 y9
    clear hb
    have HKl := kinds_len HCz.out c
    have HKa : Hid (∀ k, k < m.length.toNat → (Wq.kinds m c)[k]? = some (Wq.sgn (Wq.kindOf m c (k : Int)))) := fun k hk => kinds_at HCz.out c hk
    generalize hks : Wq.kinds m c = ks at HKl HKa ⊢
    clear hks
    have hlr := Lq.cyc_of HP.out.is
    obtain ⟨_, _, ln1, ln2, _⟩ := hlr
    obtain ⟨L, hL⟩ : ∃ L : Nat, m.length.toNat = L := ⟨_, rfl⟩
    rw [hL] at HKl HKa
    have HLe : Hid (m.length = (L : Int)) := by show _ = _; omega
    have hsz : (((⟨ks.toArray⟩ : ByteArray).size : Nat) : Int) = m.length := by have := HLe.out; show ((ks.toArray.size : Nat) : Int) = _; rw [List.size_toArray, HKl]; exact this.symm
    clear hL HKl
    obtain ⟨_, _, _, y3, _, _, _, _, _, _, _⟩ := HX.out.row.mat
    generalize hKS : (⟨ks.toArray⟩ : ByteArray) = KS at hsz ⊢
    have HKb : Hid (∀ k, k < L → ∃ h : k < KS.size, KS[k] = Wq.sgn (Wq.kindOf m c (k : Int))) := fun k hk => by
      have := HKa.out k hk
      obtain ⟨h1, h2⟩ := List.getElem?_eq_some_iff.1 this
      subst hKS
      exact ⟨h1, h2⟩
    clear HKa hKS
    go_upto_block 0 with fail
    go_wp2_with fail
    go_loopw [13, 12, 14, 15] (fun vi vf _ _ wr => ∃ k F : Nat, k ≤ L ∧ F ≤ k ∧ vi = .int .i64 (k : Int) ∧ vf = .int .i64 (F : Int) ∧ Hid (Bx W wr W.heap.size m a) ∧ Hid (F = (List.range k).countP (fun u : Nat => Wq.loose (Wq.kindOf m c (u : Int))))) (fun vi _ _ _ _ => L - (intOf vi).toNat)
    case atStart => exact ⟨0, 0, Nat.zero_le _, Nat.le_refl _, rfl, rfl, HX, rfl⟩
    case round =>
      clear HX
      obtain ⟨k, F, hk, hFk, rfl, rfl, HX, HF⟩ := hrel
      obtain ⟨y0, y1, y2, y3, y4, y5, y6, y7, y8, y9, y10⟩ := HX.out.row.mat
      by_cases hkl : k < L
      · have ki : (k : Int) < m.length := by have := HLe.out; omega
        have kb : (k : Int) < 4000 := by omega
        have fb : (F : Int) < 4000 := by omega
        have HW3 : Hid ((Lit.int .i64 (k : Int)).wf = true) := wfi (by omega)
        obtain ⟨hks, hkv⟩ := HKb.out k hkl
        have hkz : (k : Int) < (KS.size : Int) := by rw [hsz]; exact ki
        have HFs := free_step (f := fun u : Nat => Wq.loose (Wq.kindOf m c (u : Int))) k
        rw [← HF.out] at HFs
        rcases Wq.at_cases HCz.out c (k : Int) with ⟨hat, hgw, _⟩ | ⟨i, x, hat, hgw, hx, _⟩
        · have hkd : Wq.kindOf m c (k : Int) = 0 := by unfold Wq.kindOf; rw [hgw]
          rw [hkd] at hkv HFs
          have HF2 : Hid (F + 1 = (List.range (k + 1)).countP (fun u : Nat => Wq.loose (Wq.kindOf m c (u : Int)))) := HFs.symm
          have HAk := HRa.out wr c (k : Int) (-1) HX.out HS.out HW1.out hat
          have hkv2 : ((KS[k].toNat : Int) != 45) = false := by rw [hkv]; rfl
          clear hat hgw hkd HFs HF hkv
          go_wp2_with fail
          refine HAk.mono ?_
          rintro e w9 ⟨rfl, hb⟩
          replace HX : Hid (Bx W w9 W.heap.size m a) := HX.out.on hb
          clear hb HAk y0 y1 y2 y3 y4 y5 y6 y7 y8 y9 y10
          go_wp2_with fail
          go_roundw
          case rel => exact ⟨k + 1, F + 1, by omega, by omega, rfl, rfl, HX, HF2⟩
          case measure => simp only [intOf]; omega
        · have hkd : Wq.kindOf m c (k : Int) = x.kind := by unfold Wq.kindOf; rw [hgw]
          have hil : i < m.windows.length := (List.getElem?_eq_some_iff.1 hx).1
          have ii : (i : Int) < (m.windows.length : Int) := by omega
          have ib : (i : Int) < 1000 := by have := HS.out.c; omega
          have hcs : x.kind = 1 ∨ x.kind = 2 ∨ x.kind = 3 := by have := (Lq.wx_of HP.out hx).kind; omega
          have HXi : Hid (m.windows[i]? = some x) := hx
          rw [hkd] at hkv HFs
          have HAk := HRa.out wr c (k : Int) (i : Int) HX.out HS.out HW1.out hat
          have ig : (0 : Int) ≤ (i : Int) := by omega
          clear hat hgw hkd hx hil
          go_wp2_with fail
          refine HAk.mono ?_
          rintro e w9 ⟨rfl, hb⟩
          replace HX : Hid (Bx W w9 W.heap.size m a) := HX.out.on hb
          clear hb HAk y0 y1 y2 y3 y4 y5 y6 y7 y8 y9 y10
          obtain ⟨gw, ow, hs, _, c0, _⟩ := HX.out.mem.window HXi.out
          have y10 := HX.out.row.mat.2.2.2.2.2.2.2.2.2.2
          rw [hs] at y10
          clear hs
          rcases hcs with h | h | h
          · rw [h] at c0 hkv HFs
            have HF2 : Hid (F = (List.range (k + 1)).countP (fun u : Nat => Wq.loose (Wq.kindOf m c (u : Int)))) := HFs.symm
            have hkv2 : ((KS[k].toNat : Int) != 69) = false := by rw [hkv]; rfl
            have ec : (((⟨#[69, 65, 70]⟩ : ByteArray)[0]'(by decide)).toNat : Int) = 69 := by decide
            clear HFs HF hkv h
            go_wp2_with fail
            go_roundw
            case rel => exact ⟨k + 1, F, by omega, by omega, rfl, rfl, HX, HF2⟩
            case measure => simp only [intOf]; omega
          · rw [h] at c0 hkv HFs
            have HF2 : Hid (F = (List.range (k + 1)).countP (fun u : Nat => Wq.loose (Wq.kindOf m c (u : Int)))) := HFs.symm
            have hkv2 : ((KS[k].toNat : Int) != 65) = false := by rw [hkv]; rfl
            have ec : (((⟨#[69, 65, 70]⟩ : ByteArray)[1]'(by decide)).toNat : Int) = 65 := by decide
            clear HFs HF hkv h
            go_wp2_with fail
            go_roundw
            case rel => exact ⟨k + 1, F, by omega, by omega, rfl, rfl, HX, HF2⟩
            case measure => simp only [intOf]; omega
          · rw [h] at c0 hkv HFs
            have HF2 : Hid (F + 1 = (List.range (k + 1)).countP (fun u : Nat => Wq.loose (Wq.kindOf m c (u : Int)))) := HFs.symm
            have hkv2 : ((KS[k].toNat : Int) != 70) = false := by rw [hkv]; rfl
            have ec : (((⟨#[69, 65, 70]⟩ : ByteArray)[2]'(by decide)).toNat : Int) = 70 := by decide
            clear HFs HF hkv h
            go_wp2_with fail
            go_roundw
            case rel => exact ⟨k + 1, F + 1, by omega, by omega, rfl, rfl, HX, HF2⟩
            case measure => simp only [intOf]; omega
      · obtain rfl : k = L := by omega
        have ki : ¬ ((k : Int) < m.length) := by have := HLe.out; omega
        have HFe : Hid (Wq.free m c = F) := by
          show _ = _
          unfold Wq.free
          rw [if_pos HCz.out, HLe.out, Int.toNat_natCast, ← HF.out]
        go_wp2_with fail
        refine (HFr.out _ c F HX.out HS.out HW1.out HFe.out).mono ?_
        rintro e w9 ⟨rfl, hb⟩
        replace HX : Hid (Bx W w9 W.heap.size m a) := HX.out.on hb
        clear hb
        go_wp2
        go_ret
        exact ⟨rfl, HX.out.below⟩
end Go.Proofs.YtmfehobpbpkcaaaDoor.windowTells
