/- WindowSums: of every matrix of few entries and cycle: units of all windows of a cycle, and those that have none, are all units (others are let by); no condition. -/
import Derived.Test.YtmfehobpbpkcaaaDoorWb
import Derived.Test.YtmfehobpbpkcaaaDoorHl
import Derived.Deep.CutBlock
import Derived.ProofKit
import Derived.OpenShut
namespace Go.Proofs.YtmfehobpbpkcaaaDoor.windowSums
open Go.ChangeShapes Go.WideShapes Go.ChangeAt Go.RowKit
set_option linter.unusedVariables false
variable {Q : World → Prop}
theorem wid_step {c : Int} {l : List Mx.Win} {k : Nat} {x : Mx.Win} (hx : l[k]? = some x) : ((l.take (k + 1)).map (Wq.wid c)).sum = ((l.take k).map (Wq.wid c)).sum + Wq.wid c x := by
  rw [List.take_add_one, hx, List.map_append, List.sum_append]
  simp
theorem u8rng {x : Int} (h : (Lit.int .u8 x).wf = true) : 0 ≤ x ∧ x < 256 := by
  simp [Lit.wf, IntKind.min, IntKind.max, IntKind.signed, IntKind.bits] at h
  omega
set_option maxRecDepth 100000 in
set_option maxHeartbeats 8000000 in
theorem walkA (hQ : ∀ w w', Q w → Below w.heap.size w w' → Q w') (S : WinSpec Q) (m : Mx.M) (a : Ma) (p : Int) {W0 : World} (hm : MIn W0 m a) (hwf : Mx.Wf m) (h1 : (Lit.int .u8 p).wf = true) (W : World) (hw0 : W = W0) (hW : Q W) :
    Calls Tryd.prog 4 #[mV m a, .int .u8 p] W fun e w' => e = .returned (.bool true) ∧ Below W.heap.size W w' := by
  subst hw0
  have HQ : Hid (∀ w, Below W.heap.size W w → Q w) := fun w hb => hQ W w hW hb
  have HK : Hid (∀ w, Below W.heap.size W w → Calls Tryd.prog 6 #[] w fun e w' => e = .returned (.bool true) ∧ Below w.heap.size w w') := fun w hb => known16_any hQ S w (HQ.out _ hb)
  have HAt : Hid (∀ (w : World) (c u r : Int), Bx W w W.heap.size m a → Mx.Small m → (Lit.int .i64 c).wf = true → (Lit.int .i64 u).wf = true → Wq.atW m c u = r → Calls Tryd.prog 9 #[mV m a, .int .i64 c, .int .i64 u] w fun e w' => e = .returned (.int .i64 r) ∧ Below w.heap.size w w') := fun w c u r h hs h1 h2 hr => by subst hr; exact S.at_ w m a c u (HQ.out _ h.below) h.mem hs hwf h1 h2
  have HOw : Hid (∀ (w : World) (c u r : Int), Bx W w W.heap.size m a → Mx.Small m → (Lit.int .i64 c).wf = true → (Lit.int .i64 u).wf = true → Wq.owner m c u = r → Calls Tryd.prog 10 #[mV m a, .int .i64 c, .int .i64 u] w fun e w' => e = .returned (.int .i64 r) ∧ Below w.heap.size w w') := fun w c u r h hs h1 h2 hr => by subst hr; exact S.owner w m a c u (HQ.out _ h.below) h.mem hs hwf h1 h2
  have HFr : Hid (∀ (w : World) (c : Int) (n : Nat), Bx W w W.heap.size m a → Mx.Small m → (Lit.int .i64 c).wf = true → Wq.free m c = n → Calls Tryd.prog 13 #[mV m a, .int .i64 c] w fun e w' => e = .returned (.int .i64 (n : Int)) ∧ Below w.heap.size w w') := fun w c n h hs h1 hn => by subst hn; exact S.free w m a c (HQ.out _ h.below) h.mem hs hwf h1
  have HKi : Hid (∀ (w : World) (c : Int) (l : List UInt8), Bx W w W.heap.size m a → Mx.Small m → (Lit.int .i64 c).wf = true → Wq.kinds m c = l → Calls Tryd.prog 12 #[mV m a, .int .i64 c] w fun e w' => e = .returned (.string ⟨l.toArray⟩) ∧ Below w.heap.size w w') := fun w c l h hs h1 hl => by subst hl; exact S.kinds w m a c (HQ.out _ h.below) h.mem hs hwf h1
  have HRa : Hid (∀ (w : World) (c u r : Int), Bx W w W.heap.size m a → Mx.Small m → (Lit.int .i64 c).wf = true → Wq.atW m c u = r → Calls Tryd.prog 8 #[mV m a, .int .i64 c, .int .i64 u] w fun e w' => e = .returned (.int .i64 r) ∧ Below w.heap.size w w') := fun w c u r h hs h1 hr => by subst hr; exact rat_any w m a c u h.mem hs hwf h1
  have HCk : Hid (∀ w, Bx W w W.heap.size m a → Mx.Small m → Calls Tryd.prog 11 #[mV m a] w fun e w' => e = .returned (.tuple #[.int .i64 (Lq.check m).1, .int .i64 (Lq.check m).2]) ∧ Below w.heap.size w w') := fun w h hs => rcheck_any w m a h.mem hs hwf
  have hp : 0 ≤ p ∧ p < 256 := u8rng h1
  have HX : Hid (Bx W (W.alloc (.cells (mCs m a) 27)) W.heap.size m a) := Bx.mk' hm
  clear hm hQ hW
  go_enter Tryd.func4, Tryd.ntmps4
  clear h1 hwf
  go_wp2_with fail
  refine (HK.out _ HX.out.below).mono ?_
  rintro e w1 ⟨rfl, hb⟩
  replace HX : Hid (Bx W w1 W.heap.size m a) := HX.out.on hb
  clear hb HK
  obtain ⟨y0, y1, y2, y3, y4, y5, y6, y7, y8, y9, y10⟩ := HX.out.row.mat
  go_wp2_with fail
  refine (few16_any w1 m a).mono ?_
  rintro e w2 ⟨rfl, hb⟩
  replace HX : Hid (Bx W w2 W.heap.size m a) := HX.out.on hb
  clear y0 y1 y10 y2 y3 y4 y5 y6 y7 y8 y9
  clear hb
  cases hfw : Mx.few m
  · go_wp2
    go_ret
    exact ⟨rfl, HX.out.below⟩
  have HS : Hid (Mx.Small m) := Mx.few_small hfw
  clear hfw
  obtain ⟨ck, hck⟩ : ∃ z, (Lq.check m).2 = z := ⟨_, rfl⟩
  have HCz : Hid ((Lq.check m).2 = ck) := hck
  rw [hck] at HCk
  clear hck
  generalize (Lq.check m).1 = ck1 at HCk
  obtain ⟨y0, y1, y2, y3, y4, y5, y6, y7, y8, y9, y10⟩ := HX.out.row.mat
  go_wp2_with fail
  refine (HCk.out _ HX.out HS.out).mono ?_
  rintro e w3 ⟨rfl, hb⟩
  replace HX : Hid (Bx W w3 W.heap.size m a) := HX.out.on hb
  clear y0 y1 y10 y2 y3 y4 y5 y6 y7 y8 y9
  clear hb HCk
  by_cases hc0 : ck = 0
  rotate_left
  · have hcb : (ck != 0) = true := bne_iff_ne.2 hc0
    have HAe : Hid (Wq.atW m 0 50 = -1) := Wq.at_fail (by rw [HCz.out]; exact hc0) 0 50
    clear hc0
    obtain ⟨y0, y1, y2, y3, y4, y5, y6, y7, y8, y9, y10⟩ := HX.out.row.mat
    go_wp2_with fail
    refine (HAt.out _ 0 50 (-1) HX.out HS.out (by decide) (by decide) HAe.out).mono ?_
    rintro e w4 ⟨rfl, hb⟩
    replace HX : Hid (Bx W w4 W.heap.size m a) := HX.out.on hb
    clear y0 y1 y10 y2 y3 y4 y5 y6 y7 y8 y9
    clear hb
    go_wp2
    go_ret
    exact ⟨rfl, HX.out.below⟩
  subst hc0
  have HP : Hid (Lq.Passes m) := Lq.passes_of HCz.out
  have hcc := Lq.cyc_of HP.out.is
  obtain ⟨cy1, cy2, ln1, ln2, _⟩ := hcc
  obtain ⟨C, hC⟩ : ∃ C : Nat, p.tmod m.cycles = (C : Int) := Int.eq_ofNat_of_zero_le (Int.tmod_nonneg _ hp.1)
  have hCl : (C : Int) < m.cycles := by rw [← hC, Int.tmod_eq_emod_of_nonneg hp.1]; exact Int.emod_lt_of_pos _ (by omega)
  have np : ¬ (m.cycles = 0) := by omega
  have HLw : Hid (m.windows.length ≤ 16) := (Pq.num_of HP.out.is).l3
  have hn3 : (m.windows.length : Int) ≤ 16 := by have := HLw.out; omega
  have y2 := HX.out.row.mat.2.2.1
  have hp1 := hp.1
  have hp2 := hp.2
  go_upto_block 0 with fail
  clear y2 hC np hp hp1 hp2
  go_wp2_with fail
  go_loopw [9, 8, 10] (fun vi vn _ wr => ∃ (k : Nat) (N : Int), k ≤ m.windows.length ∧ 0 ≤ N ∧ N ≤ 4000 * (k : Int) ∧ vi = .int .i64 (k : Int) ∧ vn = .int .i64 N ∧ Hid (Bx W wr W.heap.size m a) ∧ Hid (N = ((m.windows.take k).map (Wq.wid (C : Int))).sum)) (fun vi _ _ _ => m.windows.length - (intOf vi).toNat)
  case atStart => exact ⟨0, 0, Nat.zero_le _, by omega, by omega, rfl, rfl, HX, rfl⟩
  case round =>
    clear HX
    obtain ⟨k, N, hk, hN0, hN1, rfl, rfl, HX, HN⟩ := hrel
    by_cases hkl : k < m.windows.length
    · have ki : (k : Int) < (m.windows.length : Int) := by omega
      have kb : (k : Int) < 16 := by omega
      obtain ⟨x, hx⟩ : ∃ x, m.windows[k]? = some x := ⟨_, List.getElem?_eq_getElem hkl⟩
      have wx := Lq.wx_of HP.out hx
      have HNs := wid_step (c := (C : Int)) hx
      rw [← HN.out] at HNs
      obtain ⟨gw, ow, hs, _, c0, c1, c2, c3, c4, c5⟩ := HX.out.mem.window hx
      have y10 := HX.out.row.mat.2.2.2.2.2.2.2.2.2.2
      rw [hs] at y10
      have HXn : Hid (Bx W (wr.alloc (.cells #[.int .i64 x.kind, .int .i64 x.start, .int .i64 x.fin, .int .i64 x.cycle, .int .i64 x.rep, .int .i64 x.msg] 32)) W.heap.size m a) := HX.out.al _
      have HRx : Hid (RowT 32 (wr.alloc (.cells #[.int .i64 x.kind, .int .i64 x.start, .int .i64 x.fin, .int .i64 x.cycle, .int .i64 x.rep, .int .i64 x.msg] 32)) wr.heap.size #[.int .i64 x.kind, .int .i64 x.start, .int .i64 x.fin, .int .i64 x.cycle, .int .i64 x.rep, .int .i64 x.msg]) := RowT.new _ wr _
      obtain ⟨s1, s2, s3⟩ := wx.st
      obtain ⟨r1, r2, _⟩ := wx.rep
      obtain ⟨d1, d2⟩ := wx.cy
      have hcm := Lq.comes_mod (c := (C : Int)) (by omega) d1 d2
      have hx4 : x.fin ≤ 4000 := by omega
      go_upto_region 14 with fail
      generalize (wr.alloc (.cells #[.int .i64 x.kind, .int .i64 x.start, .int .i64 x.fin, .int .i64 x.cycle, .int .i64 x.rep, .int .i64 x.msg] 32)) = v at HXn HRx ⊢
      generalize wr.heap.size = qx at HRx ⊢
      clear c0 c1 c2 c3 c4 c5 y10 hs HX hx wx HN
      have HRw : Hid (∀ w', Below v.heap.size v w' → w'.cell? ⟨qx, 0, none⟩ = some (.int .i64 x.kind) ∧ w'.cell? ⟨qx, 3, none⟩ = some (.int .i64 x.cycle) ∧ w'.cell? ⟨qx, 4, none⟩ = some (.int .i64 x.rep)) := fun w' hb => ⟨(HRx.out.on hb).c 0 _ rfl, (HRx.out.on hb).c 3 _ rfl, (HRx.out.on hb).c 4 _ rfl⟩
      obtain ⟨R, hR⟩ : ∃ R : Nat, x.rep = (R : Int) := Int.eq_ofNat_of_zero_le (by omega)
      obtain ⟨M, hM⟩ : ∃ M : Nat, C % R = M := ⟨_, rfl⟩
      have e1 : (C : Int).tmod x.rep = (M : Int) := by rw [hR, ← hM]; exact Int.ofNat_tmod C R
      have e2 : (C : Int) % x.rep = (M : Int) := by rw [hR, ← hM]; exact (Int.natCast_emod C R).symm
      have hMr : M < R := by rw [← hM]; exact Nat.mod_lt _ (by omega)
      have hMb : (M : Int) ≤ 8 := by omega
      have w1 : IntKind.i64.wrap (C : Int) = (C : Int) := by rw [IntKind.wrap_i64]; omega
      have w2 : IntKind.i64.wrap ((C : Int).tmod x.rep) = (M : Int) := by rw [e1, IntKind.wrap_i64]; omega
      have n0 : ¬ (x.rep = 0) := by omega
      rw [e2] at hcm
      clear hR hM
      obtain ⟨b, hb0⟩ : ∃ b : Bool, (x.kind != 3 && Mx.comes x.cycle x.rep (C : Int)) = b := ⟨_, rfl⟩
      have hwd : Wq.wid (C : Int) x = if b then x.fin - x.start else 0 := by unfold Wq.wid; rw [hb0]
      go_cut [55] from 44 to 55 (fun vb wx => vb = .bool b ∧ Hid (Below v.heap.size v wx))
      case first =>
        cases hm1 : ((M : Int) == x.cycle)
        · obtain rfl : b = false := by rw [← hb0, hcm, hm1, Bool.and_false]
          refine Lw.wp_region_quiet_below (by kernel_rfl) (by kernel_rfl) ?_
          repeat (first
            | go_big_quiet_skip
            | (go_big_quiet_want; go_big_quiet_op; go_big_quiet_on)
            | (go_big_quiet_want; go_big_quiet_op; apply Exists.intro; refine ⟨fun _ hb' => ?_, ?_⟩; (first
              | exact Lw.val_rfl _
              | (simp [go_sem, (HRw.out _ hb').1]; rfl)
              | (simp [go_sem, (HRw.out _ hb').2.1]; rfl)
              | (simp [go_sem, (HRw.out _ hb').2.2]; rfl)); go_big_quiet_on))
          refine wpQuiet_nil ?_
          intro wz hbz
          go_wp2_with fail
          go_meet
          case rel => exact ⟨rfl, hbz⟩
        · cases hk3 : (x.kind != 3)
          · obtain rfl : b = false := by rw [← hb0, hk3, Bool.false_and]
            refine Lw.wp_region_quiet_below (by kernel_rfl) (by kernel_rfl) ?_
            repeat (first
              | go_big_quiet_skip
              | (go_big_quiet_want; go_big_quiet_op; go_big_quiet_on)
              | (go_big_quiet_want; go_big_quiet_op; apply Exists.intro; refine ⟨fun _ hb' => ?_, ?_⟩; (first
                | exact Lw.val_rfl _
                | (simp [go_sem, (HRw.out _ hb').1]; rfl)
                | (simp [go_sem, (HRw.out _ hb').2.1]; rfl)
                | (simp [go_sem, (HRw.out _ hb').2.2]; rfl)); go_big_quiet_on))
            refine wpQuiet_nil ?_
            intro wz hbz
            go_wp2_with fail
            go_meet
            case rel => exact ⟨rfl, hbz⟩
          · obtain rfl : b = true := by rw [← hb0, hk3, hcm, hm1]; rfl
            refine Lw.wp_region_quiet_below (by kernel_rfl) (by kernel_rfl) ?_
            repeat (first
              | go_big_quiet_skip
              | (go_big_quiet_want; go_big_quiet_op; go_big_quiet_on)
              | (go_big_quiet_want; go_big_quiet_op; apply Exists.intro; refine ⟨fun _ hb' => ?_, ?_⟩; (first
                | exact Lw.val_rfl _
                | (simp [go_sem, (HRw.out _ hb').1]; rfl)
                | (simp [go_sem, (HRw.out _ hb').2.1]; rfl)
                | (simp [go_sem, (HRw.out _ hb').2.2]; rfl)); go_big_quiet_on))
            refine wpQuiet_nil ?_
            intro wz hbz
            go_wp2_with fail
            go_meet
            case rel => exact ⟨rfl, hbz⟩
      case rest =>
        obtain ⟨rfl, HBz⟩ := hcut
        have HXc : Hid (Bx W wc W.heap.size m a) := HXn.out.on HBz.out
        have x1 : wc.cell? ⟨qx, 1, none⟩ = some (.int .i64 x.start) := (HRx.out.on HBz.out).c 1 _ rfl
        have x2 : wc.cell? ⟨qx, 2, none⟩ = some (.int .i64 x.fin) := (HRx.out.on HBz.out).c 2 _ rfl
        clear HXn HRx HBz HRw hb0 hcm e1 e2 w1 w2 n0
        rw [hwd] at HNs
        cases b
        · have HN2 : Hid (N = ((m.windows.take (k + 1)).map (Wq.wid (C : Int))).sum) := by show _ = _; rw [HNs]; simp
          clear HNs hwd
          go_wp2_with fail
          go_roundw
          case rel => exact ⟨k + 1, N, by omega, by omega, by omega, rfl, rfl, HXc, HN2⟩
          case measure => simp only [intOf]; omega
        · have HN2 : Hid (N + x.fin - x.start = ((m.windows.take (k + 1)).map (Wq.wid (C : Int))).sum) := by show _ = _; rw [HNs, if_pos rfl]; omega
          clear HNs hwd
          go_wp2_with fail
          go_roundw
          case rel => exact ⟨k + 1, N + x.fin - x.start, by omega, by omega, by omega, rfl, rfl, HXc, HN2⟩
          case measure => simp only [intOf]; omega
    · obtain rfl : k = m.windows.length := by omega
      have ki : ¬ ((m.windows.length : Int) < (m.windows.length : Int)) := by omega
      rw [List.take_length] at HN
      have hsum := Wq.sums HP.out hCl
      rw [← HN.out] at hsum
      obtain ⟨F, hF⟩ : ∃ F, Wq.free m (C : Int) = F := ⟨_, rfl⟩
      rw [hF] at hsum
      have HFe : Hid (Wq.free m (C : Int) = F) := hF
      have f1 : IntKind.i64.wrap (N + (F : Int)) = m.length := by rw [hsum, IntKind.wrap_i64]; omega
      have f2 : IntKind.i64.wrap ((C : Int) + m.cycles) = (C : Int) + m.cycles := by rw [IntKind.wrap_i64]; omega
      have HV1 : Hid ((Lit.int .i64 (C : Int)).wf = true) := wfi (by omega)
      have HV2 : Hid ((Lit.int .i64 ((C : Int) + m.cycles)).wf = true) := wfi (by omega)
      have HV3 : Hid ((Lit.int .i64 m.length).wf = true) := wfi (by omega)
      have HE1 : Hid (Wq.kinds m ((C : Int) + m.cycles) = Wq.kinds m (C : Int)) := Wq.kinds_again HP.out (Int.natCast_nonneg _)
      have HE2 : Hid (Wq.atW m (C : Int) (-1) = -1) := Wq.at_none HP.out _ _ (Or.inl (by omega))
      have HE3 : Hid (Wq.atW m (C : Int) m.length = -1) := Wq.at_none HP.out _ _ (Or.inr (by omega))
      obtain ⟨y0, y1, y2, y3, y4, y5, y6, y7, y8, y9, y10⟩ := HX.out.row.mat
      clear hF hsum HN hN0 hN1 hk
      go_wp2_with fail
      refine (HKi.out _ (C : Int) _ HX.out HS.out HV1.out rfl).mono ?_
      rintro e w4 ⟨rfl, hb⟩
      replace HX : Hid (Bx W w4 W.heap.size m a) := HX.out.on hb
      clear hb y0 y1 y2 y3 y4 y5 y6 y7 y8 y9 y10
      have HKj : Hid (∀ (w : World), Bx W w W.heap.size m a → Calls Tryd.prog 12 #[mV m a, .int .i64 ((C : Int) + m.cycles)] w fun e w' => e = .returned (.string ⟨(Wq.kinds m (C : Int)).toArray⟩) ∧ Below w.heap.size w w') := fun w h => HKi.out w _ _ h HS.out HV2.out HE1.out
      generalize (⟨(Wq.kinds m (C : Int)).toArray⟩ : ByteArray) = KS at HKj ⊢
      clear HKi HE1
      go_upto_region 17 with fail
      have hbd : Below w4.heap.size w4 w4.drew := (Below.refl _ _).drew
      replace HX : Hid (Bx W w4.drew W.heap.size m a) := HX.out.on hbd
      clear hbd
      refine wp_region_held_drew (S := fun w' => RowT 27 w' W.heap.size (mCs m a)) (by kernel_rfl) HX.out.row (fun hHeld => ?_)
      refine Hl.takeL (i := 0) (d := 66) (v := ?_) rfl (by kernel_rfl) (by kernel_rfl) (by kernel_rfl) (fun _ _ _ h => h) (by rfl) ?_ (by first | assumption | trivial) ?_
      rotate_left
      · intro w hSw; obtain ⟨y0, y1, y2, y3, y4, y5, y6, y7, y8, y9, y10⟩ := hSw.mat; go_simp; (try with_reducible rfl)
      simp only [Act.put, List.setIfInBounds_toArray, List.set_cons_zero, List.set_cons_succ]
      refine Hl.takeL (i := 1) (d := 67) (v := ?_) rfl (by kernel_rfl) (by kernel_rfl) (by kernel_rfl) (fun _ _ _ h => h) (by rfl) ?_ (by first | assumption | trivial) ?_
      rotate_left
      · intro w hSw; obtain ⟨y0, y1, y2, y3, y4, y5, y6, y7, y8, y9, y10⟩ := hSw.mat; go_simp; (try with_reducible rfl)
      simp only [Act.put, List.setIfInBounds_toArray, List.set_cons_zero, List.set_cons_succ]
      refine Hl.takeL (i := 2) (d := 68) (v := ?_) rfl (by kernel_rfl) (by kernel_rfl) (by kernel_rfl) (fun _ _ _ h => h) (by rfl) ?_ (by first | assumption | trivial) ?_
      rotate_left
      · intro w hSw; obtain ⟨y0, y1, y2, y3, y4, y5, y6, y7, y8, y9, y10⟩ := hSw.mat; go_simp; (try with_reducible rfl)
      simp only [Act.put, List.setIfInBounds_toArray, List.set_cons_zero, List.set_cons_succ]
      refine Hl.takeL (i := 5) (d := 71) (v := ?_) rfl (by kernel_rfl) (by kernel_rfl) (by kernel_rfl) (fun _ _ _ h => h) (by rfl) ?_ (by first | assumption | trivial) ?_
      rotate_left
      · intro w hSw; obtain ⟨y0, y1, y2, y3, y4, y5, y6, y7, y8, y9, y10⟩ := hSw.mat; go_simp; (try with_reducible rfl)
      simp only [Act.put, List.setIfInBounds_toArray, List.set_cons_zero, List.set_cons_succ]
      refine Hl.takeL (i := 6) (d := 72) (v := ?_) rfl (by kernel_rfl) (by kernel_rfl) (by kernel_rfl) (fun _ _ _ h => h) (by rfl) ?_ (by first | assumption | trivial) ?_
      rotate_left
      · intro w hSw; obtain ⟨y0, y1, y2, y3, y4, y5, y6, y7, y8, y9, y10⟩ := hSw.mat; go_simp; (try with_reducible rfl)
      simp only [Act.put, List.setIfInBounds_toArray, List.set_cons_zero, List.set_cons_succ]
      refine Hl.consL (i := 3) rfl (by kernel_rfl) (fun K' hK' => ?_)
      go_simp
      refine (HFr.out _ (C : Int) F HX.out HS.out HV1.out HFe.out).mono ?_
      rintro e w5 ⟨rfl, hb⟩
      replace HX : Hid (Bx W w5 W.heap.size m a) := HX.out.on hb
      clear hb hHeld
      try go_wp2_with fail
      refine hK'.out _ _ HX.out.row (fun hHeld => ?_)
      clear hK' K'
      refine Hl.takeL (i := 4) (d := 70) (v := ?_) rfl (by kernel_rfl) (by kernel_rfl) (by kernel_rfl) (fun _ _ _ h => h) (by rfl) ?_ (by first | assumption | trivial) ?_
      rotate_left
      · intro w hSw; obtain ⟨y0, y1, y2, y3, y4, y5, y6, y7, y8, y9, y10⟩ := hSw.mat; go_simp; (try with_reducible rfl)
      simp only [Act.put, List.setIfInBounds_toArray, List.set_cons_zero, List.set_cons_succ]
      refine Hl.takeL (i := 7) (d := 73) (v := ?_) rfl (by kernel_rfl) (by kernel_rfl) (by kernel_rfl) (fun _ _ _ h => h) (by rfl) ?_ (by first | assumption | trivial) ?_
      rotate_left
      · intro w hSw; obtain ⟨y0, y1, y2, y3, y4, y5, y6, y7, y8, y9, y10⟩ := hSw.mat; go_simp; (try with_reducible rfl)
      simp only [Act.put, List.setIfInBounds_toArray, List.set_cons_zero, List.set_cons_succ]
      refine Hl.takeL (i := 8) (d := 74) (v := ?_) rfl (by kernel_rfl) (by kernel_rfl) (by kernel_rfl) (fun _ _ _ h => h) (by rfl) ?_ (by first | assumption | trivial) ?_
      rotate_left
      · intro w hSw; obtain ⟨y0, y1, y2, y3, y4, y5, y6, y7, y8, y9, y10⟩ := hSw.mat; go_simp; (try with_reducible rfl)
      simp only [Act.put, List.setIfInBounds_toArray, List.set_cons_zero, List.set_cons_succ]
      refine Hl.takeL (i := 9) (d := 75) (v := ?_) rfl (by kernel_rfl) (by kernel_rfl) (by kernel_rfl) (fun _ _ _ h => h) (by rfl) ?_ (by first | assumption | trivial) ?_
      rotate_left
      · intro w hSw; obtain ⟨y0, y1, y2, y3, y4, y5, y6, y7, y8, y9, y10⟩ := hSw.mat; go_simp; (try with_reducible rfl)
      simp only [Act.put, List.setIfInBounds_toArray, List.set_cons_zero, List.set_cons_succ]
      refine Hl.takeL (i := 10) (d := 76) (v := ?_) rfl (by kernel_rfl) (by kernel_rfl) (by kernel_rfl) (fun _ _ _ h => h) (by rfl) ?_ (by first | assumption | trivial) ?_
      rotate_left
      · intro w hSw; obtain ⟨y0, y1, y2, y3, y4, y5, y6, y7, y8, y9, y10⟩ := hSw.mat; go_simp; (try with_reducible rfl)
      simp only [Act.put, List.setIfInBounds_toArray, List.set_cons_zero, List.set_cons_succ]
      refine Hl.takeL (i := 11) (d := 77) (v := ?_) rfl (by kernel_rfl) (by kernel_rfl) (by kernel_rfl) (fun _ _ _ h => h) (by rfl) ?_ (by first | assumption | trivial) ?_
      rotate_left
      · intro w hSw; obtain ⟨y0, y1, y2, y3, y4, y5, y6, y7, y8, y9, y10⟩ := hSw.mat; go_simp; (try with_reducible rfl)
      simp only [Act.put, List.setIfInBounds_toArray, List.set_cons_zero, List.set_cons_succ]
      refine Hl.takeL (i := 12) (d := 78) (v := ?_) rfl (by kernel_rfl) (by kernel_rfl) (by kernel_rfl) (fun _ _ _ h => h) (by rfl) ?_ (by first | assumption | trivial) ?_
      rotate_left
      · intro w hSw; obtain ⟨y0, y1, y2, y3, y4, y5, y6, y7, y8, y9, y10⟩ := hSw.mat; go_simp; (try with_reducible rfl)
      simp only [Act.put, List.setIfInBounds_toArray, List.set_cons_zero, List.set_cons_succ]
      refine Hl.takeL (i := 13) (d := 79) (v := ?_) rfl (by kernel_rfl) (by kernel_rfl) (by kernel_rfl) (fun _ _ _ h => h) (by rfl) ?_ (by first | assumption | trivial) ?_
      rotate_left
      · intro w hSw; obtain ⟨y0, y1, y2, y3, y4, y5, y6, y7, y8, y9, y10⟩ := hSw.mat; go_simp; (try with_reducible rfl)
      simp only [Act.put, List.setIfInBounds_toArray, List.set_cons_zero, List.set_cons_succ]
      refine Hl.takeL (i := 14) (d := 80) (v := ?_) rfl (by kernel_rfl) (by kernel_rfl) (by kernel_rfl) (fun _ _ _ h => h) (by rfl) ?_ (by first | assumption | trivial) ?_
      rotate_left
      · intro w hSw; obtain ⟨y0, y1, y2, y3, y4, y5, y6, y7, y8, y9, y10⟩ := hSw.mat; go_simp; (try with_reducible rfl)
      simp only [Act.put, List.setIfInBounds_toArray, List.set_cons_zero, List.set_cons_succ]
      refine Hl.consL (i := 15) rfl (by kernel_rfl) (fun K' hK' => ?_)
      go_simp
      refine (HKj.out _ HX.out).mono ?_
      rintro e w6 ⟨rfl, hb⟩
      replace HX : Hid (Bx W w6 W.heap.size m a) := HX.out.on hb
      clear hb hHeld
      try go_wp2_with fail
      refine hK'.out _ _ HX.out.row (fun hHeld => ?_)
      clear hK' K'
      refine Hl.takeL (i := 16) (d := 82) (v := ?_) rfl (by kernel_rfl) (by kernel_rfl) (by kernel_rfl) (fun _ _ _ h => h) (by rfl) ?_ (by first | assumption | trivial) ?_
      rotate_left
      · intro w hSw; obtain ⟨y0, y1, y2, y3, y4, y5, y6, y7, y8, y9, y10⟩ := hSw.mat; go_simp; (try with_reducible rfl)
      simp only [Act.put, List.setIfInBounds_toArray, List.set_cons_zero, List.set_cons_succ]
      refine Hl.takeL (i := 17) (d := 83) (v := ?_) rfl (by kernel_rfl) (by kernel_rfl) (by kernel_rfl) (fun _ _ _ h => h) (by rfl) ?_ (by first | assumption | trivial) ?_
      rotate_left
      · intro w hSw; obtain ⟨y0, y1, y2, y3, y4, y5, y6, y7, y8, y9, y10⟩ := hSw.mat; go_simp; (try with_reducible rfl)
      simp only [Act.put, List.setIfInBounds_toArray, List.set_cons_zero, List.set_cons_succ]
      refine Hl.takeL (i := 18) (d := 84) (v := ?_) rfl (by kernel_rfl) (by kernel_rfl) (by kernel_rfl) (fun _ _ _ h => h) (by rfl) ?_ (by first | assumption | trivial) ?_
      rotate_left
      · intro w hSw; obtain ⟨y0, y1, y2, y3, y4, y5, y6, y7, y8, y9, y10⟩ := hSw.mat; go_simp; (try with_reducible rfl)
      simp only [Act.put, List.setIfInBounds_toArray, List.set_cons_zero, List.set_cons_succ]
      refine Hl.takeL (i := 19) (d := 85) (v := ?_) rfl (by kernel_rfl) (by kernel_rfl) (by kernel_rfl) (fun _ _ _ h => h) (by rfl) ?_ (by first | assumption | trivial) ?_
      rotate_left
      · intro w hSw; obtain ⟨y0, y1, y2, y3, y4, y5, y6, y7, y8, y9, y10⟩ := hSw.mat; go_simp; (try with_reducible rfl)
      simp only [Act.put, List.setIfInBounds_toArray, List.set_cons_zero, List.set_cons_succ]
      refine Hl.takeL (i := 20) (d := 86) (v := ?_) rfl (by kernel_rfl) (by kernel_rfl) (by kernel_rfl) (fun _ _ _ h => h) (by rfl) ?_ (by first | assumption | trivial) ?_
      rotate_left
      · intro w hSw; obtain ⟨y0, y1, y2, y3, y4, y5, y6, y7, y8, y9, y10⟩ := hSw.mat; go_simp; (try with_reducible rfl)
      simp only [Act.put, List.setIfInBounds_toArray, List.set_cons_zero, List.set_cons_succ]
      refine Hl.consL (i := 21) rfl (by kernel_rfl) (fun K' hK' => ?_)
      go_simp
      refine (HAt.out _ (C : Int) (-1) (-1) HX.out HS.out HV1.out (by decide) HE2.out).mono ?_
      rintro e w7 ⟨rfl, hb⟩
      replace HX : Hid (Bx W w7 W.heap.size m a) := HX.out.on hb
      clear hb hHeld
      try go_wp2_with fail
      refine hK'.out _ _ HX.out.row (fun hHeld => ?_)
      clear hK' K'
      refine Hl.takeL (i := 22) (d := 88) (v := ?_) rfl (by kernel_rfl) (by kernel_rfl) (by kernel_rfl) (fun _ _ _ h => h) (by rfl) ?_ (by first | assumption | trivial) ?_
      rotate_left
      · intro w hSw; obtain ⟨y0, y1, y2, y3, y4, y5, y6, y7, y8, y9, y10⟩ := hSw.mat; go_simp; (try with_reducible rfl)
      simp only [Act.put, List.setIfInBounds_toArray, List.set_cons_zero, List.set_cons_succ]
      refine Hl.takeL (i := 23) (d := 89) (v := ?_) rfl (by kernel_rfl) (by kernel_rfl) (by kernel_rfl) (fun _ _ _ h => h) (by rfl) ?_ (by first | assumption | trivial) ?_
      rotate_left
      · intro w hSw; obtain ⟨y0, y1, y2, y3, y4, y5, y6, y7, y8, y9, y10⟩ := hSw.mat; go_simp; (try with_reducible rfl)
      simp only [Act.put, List.setIfInBounds_toArray, List.set_cons_zero, List.set_cons_succ]
      refine Hl.takeL (i := 24) (d := 90) (v := ?_) rfl (by kernel_rfl) (by kernel_rfl) (by kernel_rfl) (fun _ _ _ h => h) (by rfl) ?_ (by first | assumption | trivial) ?_
      rotate_left
      · intro w hSw; obtain ⟨y0, y1, y2, y3, y4, y5, y6, y7, y8, y9, y10⟩ := hSw.mat; go_simp; (try with_reducible rfl)
      simp only [Act.put, List.setIfInBounds_toArray, List.set_cons_zero, List.set_cons_succ]
      refine Hl.takeL (i := 25) (d := 91) (v := ?_) rfl (by kernel_rfl) (by kernel_rfl) (by kernel_rfl) (fun _ _ _ h => h) (by rfl) ?_ (by first | assumption | trivial) ?_
      rotate_left
      · intro w hSw; obtain ⟨y0, y1, y2, y3, y4, y5, y6, y7, y8, y9, y10⟩ := hSw.mat; go_simp; (try with_reducible rfl)
      simp only [Act.put, List.setIfInBounds_toArray, List.set_cons_zero, List.set_cons_succ]
      refine Hl.takeL (i := 26) (d := 92) (v := ?_) rfl (by kernel_rfl) (by kernel_rfl) (by kernel_rfl) (fun _ _ _ h => h) (by rfl) ?_ (by first | assumption | trivial) ?_
      rotate_left
      · intro w hSw; obtain ⟨y0, y1, y2, y3, y4, y5, y6, y7, y8, y9, y10⟩ := hSw.mat; go_simp; (try with_reducible rfl)
      simp only [Act.put, List.setIfInBounds_toArray, List.set_cons_zero, List.set_cons_succ]
      refine Hl.takeL (i := 27) (d := 93) (v := ?_) rfl (by kernel_rfl) (by kernel_rfl) (by kernel_rfl) (fun _ _ _ h => h) (by rfl) ?_ (by first | assumption | trivial) ?_
      rotate_left
      · intro w hSw; obtain ⟨y0, y1, y2, y3, y4, y5, y6, y7, y8, y9, y10⟩ := hSw.mat; go_simp; (try with_reducible rfl)
      simp only [Act.put, List.setIfInBounds_toArray, List.set_cons_zero, List.set_cons_succ]
      refine Hl.takeL (i := 28) (d := 94) (v := ?_) rfl (by kernel_rfl) (by kernel_rfl) (by kernel_rfl) (fun _ _ _ h => h) (by rfl) ?_ (by first | assumption | trivial) ?_
      rotate_left
      · intro w hSw; obtain ⟨y0, y1, y2, y3, y4, y5, y6, y7, y8, y9, y10⟩ := hSw.mat; go_simp; (try with_reducible rfl)
      simp only [Act.put, List.setIfInBounds_toArray, List.set_cons_zero, List.set_cons_succ]
      refine Hl.consL (i := 29) rfl (by kernel_rfl) (fun K' hK' => ?_)
      go_simp
      refine (HAt.out _ (C : Int) m.length (-1) HX.out HS.out HV1.out HV3.out HE3.out).mono ?_
      rintro e w8 ⟨rfl, hb⟩
      replace HX : Hid (Bx W w8 W.heap.size m a) := HX.out.on hb
      clear hb hHeld
      try go_wp2_with fail
      refine hK'.out _ _ HX.out.row (fun hHeld => ?_)
      clear hK' K'
      refine Hl.takeL (i := 30) (d := 96) (v := ?_) rfl (by kernel_rfl) (by kernel_rfl) (by kernel_rfl) (fun _ _ _ h => h) (by rfl) ?_ (by first | assumption | trivial) ?_
      rotate_left
      · intro w hSw; obtain ⟨y0, y1, y2, y3, y4, y5, y6, y7, y8, y9, y10⟩ := hSw.mat; go_simp; (try with_reducible rfl)
      simp only [Act.put, List.setIfInBounds_toArray, List.set_cons_zero, List.set_cons_succ]
      refine Hl.takeL (i := 31) (d := 97) (v := ?_) rfl (by kernel_rfl) (by kernel_rfl) (by kernel_rfl) (fun _ _ _ h => h) (by rfl) ?_ (by first | assumption | trivial) ?_
      rotate_left
      · intro w hSw; obtain ⟨y0, y1, y2, y3, y4, y5, y6, y7, y8, y9, y10⟩ := hSw.mat; go_simp; (try with_reducible rfl)
      simp only [Act.put, List.setIfInBounds_toArray, List.set_cons_zero, List.set_cons_succ]
      refine Hl.takeL (i := 32) (d := 4) (v := ?_) rfl (by kernel_rfl) (by kernel_rfl) (by kernel_rfl) (fun _ _ _ h => h) (by rfl) ?_ (by first | assumption | trivial) ?_
      rotate_left
      · intro w hSw; obtain ⟨y0, y1, y2, y3, y4, y5, y6, y7, y8, y9, y10⟩ := hSw.mat; go_simp; (try with_reducible rfl)
      simp only [Act.put, List.setIfInBounds_toArray, List.set_cons_zero, List.set_cons_succ]
      refine wpAnyH_done (by kernel_rfl) ?_ _
      clear hHeld
      go_wp2
      go_ret
      exact ⟨rfl, HX.out.below⟩
end Go.Proofs.YtmfehobpbpkcaaaDoor.windowSums
