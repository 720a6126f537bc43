/- PlanEnds: of every matrix of few entries that passes: who may send may begin no later than a Step ahead of a window's end (others are let by); no condition. -/
import Derived.Test.YtlfhneiddfgoaaaDoorYg
import Derived.Test.YtlfhneiddfgoaaaDoorYh
import Derived.Test.YtlfhneiddfgoaaaDoorBj
import Derived.Test.YtlfhneiddfgoaaaDoorHn
import Derived.Deep.CutBlock
import Derived.ProofKit
import Derived.OpenShut
namespace Go.Proofs.YtlfhneiddfgoaaaDoor.planEnds
open Go.ChangeShapes Go.WideShapes Go.ChangeAt Go.RowKit
set_option linter.unusedVariables false
variable {Q : World → Prop}
/-- The window that a trigger of the first, of the second kind fits. -/
def fit1 (at_ cy rp til st en : Int) (x : Mx.Win) : Bool := (x.start == at_) && (x.cycle == cy) && (x.rep == rp) && decide (til + st - en ≤ x.fin)
def fit2 (at_ cy rp til st : Int) (x : Mx.Win) : Bool := (x.start == at_) && (x.cycle == cy) && (x.rep == rp) && (til + st == x.fin)
theorem any_step {α : Type} {l : List α} {f : α → Bool} {k : Nat} {x : α} (hx : l[k]? = some x) : (l.take (k + 1)).any f = ((l.take k).any f || f x) := by
  rw [List.take_add_one, hx, List.any_append]
  simp
set_option maxRecDepth 100000 in
set_option maxHeartbeats 8000000 in
theorem walkA (hQ : ∀ w w', Q w → Below w.heap.size w w' → Q w') (S : PlanSpec Q) (m : Mx.M) (a : Ma) (p : Int) {W0 : World} (hm : MIn W0 m a) (hwf : Mx.Wf m) (h1 : (Lit.int .u8 p).wf = true) (W : World) (hw0 : W = W0) (hW : Q W) :
    Calls Tryd.prog 8 #[mV m a, .int .u8 p] W fun e w' => e = .returned (.bool true) ∧ Below W.heap.size W w' := by
  subst hw0
  have HQ : Hid (∀ w, Below W.heap.size W w → Q w) := fun w hb => hQ W w hW hb
  have HK : Hid (∀ w, Below W.heap.size W w → Calls Tryd.prog 9 #[] w fun e w' => e = .returned (.bool true) ∧ Below w.heap.size w w') := fun w hb => known15_any hQ S w (HQ.out _ hb)
  have HPl : Hid (∀ w who, Bx W w W.heap.size m a → Mx.Small m → (Lit.int .i64 who).wf = true → Calls Tryd.prog 12 #[mV m a, .int .i64 who] w fun e w' => ∃ s c n, n = (Yq.plan m who).length ∧ e = .returned (.slice s n c) ∧ LI w' s c n ((Yq.plan m who).flatMap tC) ∧ Below w.heap.size w w') := fun w who h hs hw => S.plan w m a who (HQ.out _ h.below) h.mem hs hwf hw
  have HSt : Hid (∀ w, Bx W w W.heap.size m a → Mx.Small m → Calls Tryd.prog 22 #[mV m a] w fun e w' => e = .returned (.int .i64 (Lq.step m)) ∧ Below w.heap.size w w') := fun w h hs => rstep_any w m a h.mem hs hwf
  have HCa : Hid (∀ w, Bx W w W.heap.size m a → Calls Tryd.prog 21 #[mV m a] w fun e w' => e = .returned (.tuple #[.int .i64 (Lq.check m).1, .int .i64 (Lq.check m).2]) ∧ Below w.heap.size w w') := fun w h => rcheck_all w m a h.mem hwf
  have hp : 0 ≤ p ∧ p < 256 := u8rng h1
  have HX : Hid (Bx W (W.alloc (.cells (mCs m a) 27)) W.heap.size m a) := Bx.mk' hm
  clear hm hQ hW
  go_enter Tryd.func8, Tryd.ntmps8
  clear h1 hwf
  go_wp2_with fail
  refine (HK.out _ HX.out.below).mono ?_
  rintro e w1 ⟨rfl, hb⟩
  replace HX : Hid (Bx W w1 W.heap.size m a) := HX.out.on hb
  clear hb HK
  obtain ⟨y0, y1, y2, y3, y4, y5, y6, y7, y8, y9, y10⟩ := HX.out.row.mat
  go_wp2_with fail
  refine (HCa.out _ HX.out).mono ?_
  rintro e w2 ⟨rfl, hb⟩
  replace HX : Hid (Bx W w2 W.heap.size m a) := HX.out.on hb
  clear y0 y1 y10 y2 y3 y4 y5 y6 y7 y8 y9
  clear hb HCa
  obtain ⟨y0, y1, y2, y3, y4, y5, y6, y7, y8, y9, y10⟩ := HX.out.row.mat
  go_wp2_with fail
  refine (few15_any w2 m a).mono ?_
  rintro e w3 ⟨rfl, hb⟩
  replace HX : Hid (Bx W w3 W.heap.size m a) := HX.out.on hb
  clear y0 y1 y10 y2 y3 y4 y5 y6 y7 y8 y9
  clear hb
  obtain ⟨ck, hck⟩ : ∃ z, (Lq.check m).2 = z := ⟨_, rfl⟩
  have HCk : Hid ((Lq.check m).2 = ck) := hck
  rw [hck]
  clear hck
  generalize (Lq.check m).1 = ck1
  cases hfw : Mx.few m
  · go_wp2
    go_ret
    exact ⟨rfl, HX.out.below⟩
  have HS : Hid (Mx.Small m) := Mx.few_small hfw
  clear hfw
  by_cases hc0 : ck = 0
  rotate_left
  · have hcb : (ck != 0) = true := bne_iff_ne.2 hc0
    go_wp2
    go_ret
    exact ⟨rfl, HX.out.below⟩
  subst hc0
  have HP : Hid (Lq.Passes m) := Lq.passes_of HCk.out
  clear HCk
  have hnd := Lq.cyc_of HP.out.is
  obtain ⟨cy1, cy2, _, _, _, _, _, _, _, nd1, nd2⟩ := hnd
  obtain ⟨who, hwho⟩ : ∃ z, p.tmod m.nodes = z := ⟨_, rfl⟩
  have hwr : 0 ≤ who ∧ who < m.nodes := by rw [← hwho, Int.tmod_eq_emod_of_nonneg hp.1]; exact ⟨Int.emod_nonneg _ (by omega), Int.emod_lt_of_pos _ (by omega)⟩
  have np : ¬ (m.nodes = 0) := by omega
  have w1p : IntKind.i64.wrap p = p := by rw [IntKind.wrap_i64]; omega
  have w2p : IntKind.i64.wrap (p.tmod m.nodes) = who := by rw [hwho, IntKind.wrap_i64]; omega
  have HWho : Hid ((Lit.int .i64 who).wf = true) := wfi (by omega)
  have HWr : Hid (0 ≤ who ∧ who < m.nodes) := hwr
  have HCy : Hid (1 ≤ m.cycles ∧ m.cycles ≤ 8) := ⟨cy1, cy2⟩
  clear cy1 cy2 nd1 nd2 hwr
  go_upto_region 6 with fail
  have hbd : Below w3.heap.size w3 w3.drew := (Below.refl _ _).drew
  replace HX : Hid (Bx W w3.drew W.heap.size m a) := HX.out.on hbd
  clear hbd
  refine wp_region_held_drew (S := fun w' => RowT 27 w' W.heap.size (mCs m a)) (by kernel_rfl) HX.out.row (fun hHeld => ?_)
  refine Hl.takeL (i := 0) (d := 28) (v := ?_) rfl (by kernel_rfl) (by kernel_rfl) (by kernel_rfl) (fun _ _ _ h => h) (by rfl) ?_ (by first | assumption | trivial) ?_
  rotate_left
  · intro w hSw; obtain ⟨y0, y1, y2, y3, y4, y5, y6, y7, y8, y9, y10⟩ := hSw.mat; go_simp; (try with_reducible rfl)
  simp only [Act.put, List.setIfInBounds_toArray, List.set_cons_zero, List.set_cons_succ]
  refine Hl.takeL (i := 1) (d := 29) (v := ?_) rfl (by kernel_rfl) (by kernel_rfl) (by kernel_rfl) (fun _ _ _ h => h) (by rfl) ?_ (by first | assumption | trivial) ?_
  rotate_left
  · intro w hSw; obtain ⟨y0, y1, y2, y3, y4, y5, y6, y7, y8, y9, y10⟩ := hSw.mat; go_simp; (try with_reducible rfl)
  simp only [Act.put, List.setIfInBounds_toArray, List.set_cons_zero, List.set_cons_succ]
  refine Hl.takeL (i := 2) (d := 30) (v := ?_) rfl (by kernel_rfl) (by kernel_rfl) (by kernel_rfl) (fun _ _ _ h => h) (by rfl) ?_ (by first | assumption | trivial) ?_
  rotate_left
  · intro w hSw; obtain ⟨y0, y1, y2, y3, y4, y5, y6, y7, y8, y9, y10⟩ := hSw.mat; go_simp; (try with_reducible rfl)
  simp only [Act.put, List.setIfInBounds_toArray, List.set_cons_zero, List.set_cons_succ]
  refine Hl.takeL (i := 3) (d := 31) (v := ?_) rfl (by kernel_rfl) (by kernel_rfl) (by kernel_rfl) (fun _ _ _ h => h) (by rfl) ?_ (by first | assumption | trivial) ?_
  rotate_left
  · intro w hSw; obtain ⟨y0, y1, y2, y3, y4, y5, y6, y7, y8, y9, y10⟩ := hSw.mat; go_simp; (try with_reducible rfl)
  simp only [Act.put, List.setIfInBounds_toArray, List.set_cons_zero, List.set_cons_succ]
  refine Hl.takeL (i := 4) (d := 32) (v := ?_) rfl (by kernel_rfl) (by kernel_rfl) (by kernel_rfl) (fun _ _ _ h => h) (by rfl) ?_ (by first | assumption | trivial) ?_
  rotate_left
  · intro w hSw; obtain ⟨y0, y1, y2, y3, y4, y5, y6, y7, y8, y9, y10⟩ := hSw.mat; go_simp; (try with_reducible rfl)
  simp only [Act.put, List.setIfInBounds_toArray, List.set_cons_zero, List.set_cons_succ]
  refine Hl.takeL (i := 5) (d := 33) (v := ?_) rfl (by kernel_rfl) (by kernel_rfl) (by kernel_rfl) (fun _ _ _ h => h) (by rfl) ?_ (by first | assumption | trivial) ?_
  rotate_left
  · intro w hSw; obtain ⟨y0, y1, y2, y3, y4, y5, y6, y7, y8, y9, y10⟩ := hSw.mat; go_simp; (try with_reducible rfl)
  simp only [Act.put, List.setIfInBounds_toArray, List.set_cons_zero, List.set_cons_succ]
  refine Hl.consL (i := 6) rfl (by kernel_rfl) (fun K' hK' => ?_)
  go_simp
  refine (HPl.out _ who HX.out HS.out HWho.out).mono ?_
  rintro e w4 ⟨s1, c1, n1, hn, rfl, hl, hb⟩
  replace HX : Hid (Bx W w4 W.heap.size m a) := HX.out.on hb
  have HN1 : Hid (n1 = (Yq.plan m who).length) := hn
  have HL1 : Hid (LI w4 s1 c1 n1 ((Yq.plan m who).flatMap tC)) := hl
  clear hn hl
  clear hb hHeld
  try go_wp2_with fail
  refine hK'.out _ _ HX.out.row (fun hHeld => ?_)
  clear hK' K'
  refine Hl.takeL (i := 7) (d := 7) (v := ?_) rfl (by kernel_rfl) (by kernel_rfl) (by kernel_rfl) (fun _ _ _ h => h) (by rfl) ?_ (by first | assumption | trivial) ?_
  rotate_left
  · intro w hSw; obtain ⟨y0, y1, y2, y3, y4, y5, y6, y7, y8, y9, y10⟩ := hSw.mat; go_simp; (try with_reducible rfl)
  simp only [Act.put, List.setIfInBounds_toArray, List.set_cons_zero, List.set_cons_succ]
  refine wpAnyH_done (by kernel_rfl) ?_ _
  clear hHeld
  clear hwho np w1p w2p HWho
  obtain ⟨z0, z1, z2, z3, z4, z5, z6, z7, z8, z9, z10⟩ := HX.out.row.mat
  go_wp2_with fail
  refine (HSt.out _ HX.out HS.out).mono ?_
  rintro e w5 ⟨rfl, hb⟩
  replace HX : Hid (Bx W w5 W.heap.size m a) := HX.out.on hb
  replace HL1 : Hid (LI w5 s1 c1 n1 ((Yq.plan m who).flatMap tC)) := HL1.out.on hb
  clear hb HSt hp
  clear z0 z1 z10 z2 z3 z4 z5 z6 z7 z8 z9
  have HLp : Hid ((Yq.plan m who).length ≤ 1000) := Yq.plan_len m who HS.out
  have HTx : Hid (∀ t ∈ Yq.plan m who, Yq.Tx m t) := fun t ht => Yq.tx_of HP.out ht
  have hsp := Yq.step_pos HP.out.is
  have hlw := Yq.wins16 HP.out.is
  have hwr := Yq.watch_rng HP.out.is
  have hcc := Lq.cyc_of HP.out.is
  obtain ⟨_, _, ln1, ln2, _, en1, en2, _⟩ := hcc
  have HXw : Hid (∀ x ∈ m.windows, 0 ≤ x.fin ∧ x.fin ≤ 4000 ∧ 0 ≤ x.start ∧ x.start ≤ 4000) := fun x hx => by
    obtain ⟨i, hi⟩ := List.getElem?_of_mem hx
    have := (Lq.wx_of HP.out hi).st
    omega
  obtain ⟨lp, hlp⟩ : ∃ z, Yq.plan m who = z := ⟨_, rfl⟩
  rw [hlp] at HN1 HL1 HLp HTx
  obtain rfl : n1 = lp.length := HN1.out
  obtain ⟨st, hst⟩ : ∃ z, Lq.step m = z := ⟨_, rfl⟩
  have HSt2 : Hid (Lq.step m = st) := hst
  rw [hst] at hsp ⊢
  clear HN1 hlp hst HPl HS HWr HCy
  go_upto_block 0 with fail
  go_wp2_with fail
  go_loopw [9] (fun vi wr => ∃ i : Nat, i ≤ lp.length ∧ vi = .int .i64 (i : Int) ∧ Hid (LI wr s1 c1 lp.length (lp.flatMap tC)) ∧ Hid (Bx W wr W.heap.size m a)) (fun vi _ => lp.length - (intOf vi).toNat)
  case atStart => exact ⟨0, Nat.zero_le _, rfl, HL1, HX⟩
  case round =>
    clear HL1 HX
    obtain ⟨i, hi, rfl, HL, HX⟩ := hrel
    by_cases hil : i < lp.length
    rotate_left
    · obtain rfl : i = lp.length := by omega
      have ni : ¬ ((lp.length : Int) < (lp.length : Int)) := by omega
      go_wp2
      go_ret
      exact ⟨rfl, HX.out.below⟩
    obtain ⟨t, ht⟩ : ∃ t, lp[i]? = some t := ⟨_, List.getElem?_eq_getElem hil⟩
    have tx := HTx.out t (List.mem_of_getElem? ht)
    have hcap := HL.out.1
    obtain ⟨g, o, rfl, hc⟩ := LI.trig HL.out ht
    obtain ⟨t0, t1, t2, t3, t4, t5⟩ := hc wr (Below.refl _ _)
    obtain ⟨kd, tat, tcy, trp, tms, tul⟩ := t
    dsimp only at t0 t1 t2 t3 t4 t5
    have ii : (i : Int) < (lp.length : Int) := by omega
    have ib : (i : Int) < 1000 := by have := HLp.out; omega
    clear hc
    have HT : Hid (RowT 44 (wr.alloc (.cells #[.int .i64 kd, .int .i64 tat, .int .i64 tcy, .int .i64 trp, .int .i64 tms, .int .i64 tul] 44)) wr.heap.size #[.int .i64 kd, .int .i64 tat, .int .i64 tcy, .int .i64 trp, .int .i64 tms, .int .i64 tul]) := RowT.new _ _ _
    have HL' : Hid (LI (wr.alloc (.cells #[.int .i64 kd, .int .i64 tat, .int .i64 tcy, .int .i64 trp, .int .i64 tms, .int .i64 tul] 44)) (some ⟨g, o, none⟩) c1 lp.length (lp.flatMap tC)) := HL.out.on ((Below.refl _ _).alloc (Nat.le_refl _) _)
    have HX' : Hid (Bx W (wr.alloc (.cells #[.int .i64 kd, .int .i64 tat, .int .i64 tcy, .int .i64 trp, .int .i64 tms, .int .i64 tul] 44)) W.heap.size m a) := HX.out.al _
    clear HL HX
    by_cases k1 : kd = 1
    rotate_left
    · have k1b : (kd != 1) = true := bne_iff_ne.2 k1
      by_cases k2 : kd = 2
      rotate_left
      · have k2b : (kd != 2) = true := bne_iff_ne.2 k2
        go_wp2_with fail
        go_roundw
        case rel => exact ⟨i + 1, by omega, rfl, HL', HX'⟩
        case measure => simp only [intOf]; omega
      subst k2
      obtain ⟨xw, hxw, f1, f2, f3, f4, f5⟩ := tx.fits (Or.inr rfl)
      dsimp only at f1 f2 f3 f4 f5
      have hxr := HXw.out xw hxw
      rw [HSt2.out] at f5
      have f6 : tul + st = xw.fin := by
        rcases f5 with ⟨a, b⟩ | ⟨a, b⟩
        · cases a
        · exact b
      have HAny : Hid (m.windows.any (fit2 tat tcy trp tul st) = true) := by
        refine List.any_eq_true.2 ⟨xw, hxw, ?_⟩
        unfold fit2
        rw [f1, f2, f3]
        simp
        exact f6
      have ta := tx.at_
      dsimp only at ta
      have tge : decide (tat ≤ tul) = true := decide_eq_true f4
      have tb : 0 ≤ tul ∧ tul ≤ 40000 := by omega
      skip
      have w2 : IntKind.i64.wrap (tul + st) = tul + st := by rw [IntKind.wrap_i64]; omega
      skip
      clear f1 f2 f3 f5 f6 hxr hxw tx ta tb
      go_upto_block 2 with fail
      clear t0 t1 t2 t3 t4 t5
      generalize wr.alloc (.cells #[.int .i64 2, .int .i64 tat, .int .i64 tcy, .int .i64 trp, .int .i64 tms, .int .i64 tul] 44) = v0 at HT HL' HX' ⊢
      generalize wr.heap.size = gt at HT ⊢
      go_wp2_with fail
      go_loopw [11, 12] (fun vo vk wq => ∃ (k : Nat) (b : Bool), k ≤ m.windows.length ∧ vk = .int .i64 (k : Int) ∧ vo = .bool b ∧ Hid (b = (m.windows.take k).any (fit2 tat tcy trp tul st)) ∧ Hid (RowT 44 wq gt #[.int .i64 2, .int .i64 tat, .int .i64 tcy, .int .i64 trp, .int .i64 tms, .int .i64 tul]) ∧ Hid (LI wq (some ⟨g, o, none⟩) c1 lp.length (lp.flatMap tC)) ∧ Hid (Bx W wq W.heap.size m a)) (fun _ vk _ => m.windows.length - (intOf vk).toNat)
      case atStart => exact ⟨0, false, Nat.zero_le _, rfl, rfl, rfl, HT, HL', HX'⟩
      case round =>
        clear HT HL' HX'
        obtain ⟨k, b, hk, rfl, rfl, HBk, HT, HL, HX⟩ := hrel
        obtain ⟨y0, y1, y2, y3, y4, y5, y6, y7, y8, y9, y10⟩ := HX.out.row.mat
        by_cases hkl : k < m.windows.length
        rotate_left
        · obtain rfl : k = m.windows.length := by omega
          have kn : ¬ ((m.windows.length : Int) < (m.windows.length : Int)) := by omega
          obtain rfl : b = true := by rw [HBk.out, List.take_length]; exact HAny.out
          clear HBk HAny
          go_wp2_with fail
          go_roundw
          case rel => exact ⟨i + 1, by omega, rfl, HL, HX⟩
          case measure => simp only [intOf]; omega
        obtain ⟨x, hx⟩ : ∃ x, m.windows[k]? = some x := ⟨_, List.getElem?_eq_getElem hkl⟩
        obtain ⟨g3, o3, hs, _, c0, c1', c2, c3, c4, c5⟩ := HX.out.mem.window hx
        have HBs : Hid ((m.windows.take (k + 1)).any (fit2 tat tcy trp tul st) = (b || (fit2 tat tcy trp tul st) x)) := by show _ = _; rw [any_step hx, ← HBk.out]
        obtain ⟨xk, xs, xf, xc, xr, xm⟩ := x
        dsimp only at c0 c1' c2 c3 c4 c5
        have ki : (k : Int) < (m.windows.length : Int) := by omega
        have kb : (k : Int) < 1000 := by omega
        have XC : True := trivial
        have HT2 : Hid (RowT 44 (wr.alloc (.cells #[.int .i64 xk, .int .i64 xs, .int .i64 xf, .int .i64 xc, .int .i64 xr, .int .i64 xm] 41)) gt #[.int .i64 2, .int .i64 tat, .int .i64 tcy, .int .i64 trp, .int .i64 tms, .int .i64 tul]) := HT.out.on ((Below.refl _ _).alloc (Nat.le_refl _) _)
        have HL2 : Hid (LI (wr.alloc (.cells #[.int .i64 xk, .int .i64 xs, .int .i64 xf, .int .i64 xc, .int .i64 xr, .int .i64 xm] 41)) (some ⟨g, o, none⟩) c1 lp.length (lp.flatMap tC)) := HL.out.on ((Below.refl _ _).alloc (Nat.le_refl _) _)
        have HX2 : Hid (Bx W (wr.alloc (.cells #[.int .i64 xk, .int .i64 xs, .int .i64 xf, .int .i64 xc, .int .i64 xr, .int .i64 xm] 41)) W.heap.size m a) := HX.out.al _
        have HW2 : Hid (RowT 41 (wr.alloc (.cells #[.int .i64 xk, .int .i64 xs, .int .i64 xf, .int .i64 xc, .int .i64 xr, .int .i64 xm] 41)) wr.heap.size #[.int .i64 xk, .int .i64 xs, .int .i64 xf, .int .i64 xc, .int .i64 xr, .int .i64 xm]) := RowT.new _ _ _
        clear hx HT HL HX HBk
        go_upto_region 18 with fail
        rw [← hs]
        clear hs c0 c1' c2 c3 c4 c5 y0 y1 y2 y3 y4 y5 y6 y7 y8 y9 y10
        generalize wr.alloc (.cells #[.int .i64 xk, .int .i64 xs, .int .i64 xf, .int .i64 xc, .int .i64 xr, .int .i64 xm] 41) = v1 at HT2 HL2 HX2 HW2 ⊢
        generalize wr.heap.size = gw at HW2 ⊢
        have q0 : v1.cell? ⟨gt, 0, none⟩ = some (.int .i64 2) := HT2.out.c 0 _ rfl
        have q1 : v1.cell? ⟨gt, 1, none⟩ = some (.int .i64 tat) := HT2.out.c 1 _ rfl
        have q2 : v1.cell? ⟨gt, 2, none⟩ = some (.int .i64 tcy) := HT2.out.c 2 _ rfl
        have q3 : v1.cell? ⟨gt, 3, none⟩ = some (.int .i64 trp) := HT2.out.c 3 _ rfl
        have q5 : v1.cell? ⟨gt, 5, none⟩ = some (.int .i64 tul) := HT2.out.c 5 _ rfl
        have r1 : v1.cell? ⟨gw, 1, none⟩ = some (.int .i64 xs) := HW2.out.c 1 _ rfl
        have r2 : v1.cell? ⟨gw, 2, none⟩ = some (.int .i64 xf) := HW2.out.c 2 _ rfl
        have r3 : v1.cell? ⟨gw, 3, none⟩ = some (.int .i64 xc) := HW2.out.c 3 _ rfl
        have r4 : v1.cell? ⟨gw, 4, none⟩ = some (.int .i64 xr) := HW2.out.c 4 _ rfl
        have y4 := HX2.out.row.mat.2.2.2.2.1
        have hF : (fit2 tat tcy trp tul st) ⟨xk, xs, xf, xc, xr, xm⟩ = ((xs == tat) && (xc == tcy) && (xr == trp) && (tul + st == xf)) := rfl
        rw [hF] at HBs
        clear hF HW2
        cases b
        rotate_left
        · skip
          have HBn : Hid (true = (m.windows.take (k + 1)).any (fit2 tat tcy trp tul st)) := by show _ = _; rw [HBs.out]; first | rfl | simp
          clear HBs
          refine wp_region_lit ?_
          generalize hO : (List.toArray (_ : List Oper)) = OPS
          have HO : Hid (_ = OPS) := hO
          clear hO
          refine Hn.take (v := ?_) (by first | rfl | (rw [← HO.out]; rfl)) ?_ ?_
          rotate_left
          · go_simp; (try with_reducible rfl)
          simp only [Act.put, List.setIfInBounds_toArray, List.set_cons_zero, List.set_cons_succ]
          refine Hn.take (v := ?_) (by first | rfl | (rw [← HO.out]; rfl)) ?_ ?_
          rotate_left
          · go_simp; (try with_reducible rfl)
          simp only [Act.put, List.setIfInBounds_toArray, List.set_cons_zero, List.set_cons_succ]
          iterate 67 (refine Hn.skip (by rw [← HO.out]; rfl) ?_; simp only [Act.put, List.setIfInBounds_toArray, List.set_cons_zero, List.set_cons_succ])
          refine Hn.take (v := ?_) (by first | rfl | (rw [← HO.out]; rfl)) ?_ ?_
          rotate_left
          · go_simp; (try with_reducible rfl)
          simp only [Act.put, List.setIfInBounds_toArray, List.set_cons_zero, List.set_cons_succ]
          refine Hn.take (v := ?_) (by first | rfl | (rw [← HO.out]; rfl)) ?_ ?_
          rotate_left
          · go_simp; (try with_reducible rfl)
          simp only [Act.put, List.setIfInBounds_toArray, List.set_cons_zero, List.set_cons_succ]
          clear HO
          refine Hn.done ?_
          go_wp2_with fail
          go_roundw
          case rel => exact ⟨k + 1, true, by omega, rfl, rfl, HBn, HT2, HL2, HX2⟩
          case measure => simp only [intOf]; omega
        cases e1 : (xs == tat)
        · skip
          rw [e1] at HBs
          have HBn : Hid (false = (m.windows.take (k + 1)).any (fit2 tat tcy trp tul st)) := by show _ = _; rw [HBs.out]; first | rfl | simp
          clear HBs
          refine wp_region_lit ?_
          generalize hO : (List.toArray (_ : List Oper)) = OPS
          have HO : Hid (_ = OPS) := hO
          clear hO
          refine Hn.take (v := ?_) (by first | rfl | (rw [← HO.out]; rfl)) ?_ ?_
          rotate_left
          · go_simp; (try with_reducible rfl)
          simp only [Act.put, List.setIfInBounds_toArray, List.set_cons_zero, List.set_cons_succ]
          refine Hn.take (v := ?_) (by first | rfl | (rw [← HO.out]; rfl)) ?_ ?_
          rotate_left
          · go_simp; (try with_reducible rfl)
          simp only [Act.put, List.setIfInBounds_toArray, List.set_cons_zero, List.set_cons_succ]
          refine Hn.take (v := ?_) (by first | rfl | (rw [← HO.out]; rfl)) ?_ ?_
          rotate_left
          · go_simp; (try with_reducible rfl)
          simp only [Act.put, List.setIfInBounds_toArray, List.set_cons_zero, List.set_cons_succ]
          refine Hn.take (v := ?_) (by first | rfl | (rw [← HO.out]; rfl)) ?_ ?_
          rotate_left
          · go_simp; (try with_reducible rfl)
          simp only [Act.put, List.setIfInBounds_toArray, List.set_cons_zero, List.set_cons_succ]
          refine Hn.take (v := ?_) (by first | rfl | (rw [← HO.out]; rfl)) ?_ ?_
          rotate_left
          · go_simp; (try with_reducible rfl)
          simp only [Act.put, List.setIfInBounds_toArray, List.set_cons_zero, List.set_cons_succ]
          refine Hn.take (v := ?_) (by first | rfl | (rw [← HO.out]; rfl)) ?_ ?_
          rotate_left
          · go_simp; (try with_reducible rfl)
          simp only [Act.put, List.setIfInBounds_toArray, List.set_cons_zero, List.set_cons_succ]
          refine Hn.take (v := ?_) (by first | rfl | (rw [← HO.out]; rfl)) ?_ ?_
          rotate_left
          · go_simp; (try with_reducible rfl)
          simp only [Act.put, List.setIfInBounds_toArray, List.set_cons_zero, List.set_cons_succ]
          refine Hn.take (v := ?_) (by first | rfl | (rw [← HO.out]; rfl)) ?_ ?_
          rotate_left
          · go_simp; (try with_reducible rfl)
          simp only [Act.put, List.setIfInBounds_toArray, List.set_cons_zero, List.set_cons_succ]
          iterate 5 (refine Hn.skip (by rw [← HO.out]; rfl) ?_; simp only [Act.put, List.setIfInBounds_toArray, List.set_cons_zero, List.set_cons_succ])
          refine Hn.take (v := ?_) (by first | rfl | (rw [← HO.out]; rfl)) ?_ ?_
          rotate_left
          · go_simp; (try with_reducible rfl)
          simp only [Act.put, List.setIfInBounds_toArray, List.set_cons_zero, List.set_cons_succ]
          refine Hn.take (v := ?_) (by first | rfl | (rw [← HO.out]; rfl)) ?_ ?_
          rotate_left
          · go_simp; (try with_reducible rfl)
          simp only [Act.put, List.setIfInBounds_toArray, List.set_cons_zero, List.set_cons_succ]
          iterate 5 (refine Hn.skip (by rw [← HO.out]; rfl) ?_; simp only [Act.put, List.setIfInBounds_toArray, List.set_cons_zero, List.set_cons_succ])
          refine Hn.take (v := ?_) (by first | rfl | (rw [← HO.out]; rfl)) ?_ ?_
          rotate_left
          · go_simp; (try with_reducible rfl)
          simp only [Act.put, List.setIfInBounds_toArray, List.set_cons_zero, List.set_cons_succ]
          refine Hn.take (v := ?_) (by first | rfl | (rw [← HO.out]; rfl)) ?_ ?_
          rotate_left
          · go_simp; (try with_reducible rfl)
          simp only [Act.put, List.setIfInBounds_toArray, List.set_cons_zero, List.set_cons_succ]
          iterate 5 (refine Hn.skip (by rw [← HO.out]; rfl) ?_; simp only [Act.put, List.setIfInBounds_toArray, List.set_cons_zero, List.set_cons_succ])
          refine Hn.take (v := ?_) (by first | rfl | (rw [← HO.out]; rfl)) ?_ ?_
          rotate_left
          · go_simp; (try with_reducible rfl)
          simp only [Act.put, List.setIfInBounds_toArray, List.set_cons_zero, List.set_cons_succ]
          refine Hn.take (v := ?_) (by first | rfl | (rw [← HO.out]; rfl)) ?_ ?_
          rotate_left
          · go_simp; (try with_reducible rfl)
          simp only [Act.put, List.setIfInBounds_toArray, List.set_cons_zero, List.set_cons_succ]
          iterate 39 (refine Hn.skip (by rw [← HO.out]; rfl) ?_; simp only [Act.put, List.setIfInBounds_toArray, List.set_cons_zero, List.set_cons_succ])
          refine Hn.take (v := ?_) (by first | rfl | (rw [← HO.out]; rfl)) ?_ ?_
          rotate_left
          · go_simp; (try with_reducible rfl)
          simp only [Act.put, List.setIfInBounds_toArray, List.set_cons_zero, List.set_cons_succ]
          refine Hn.take (v := ?_) (by first | rfl | (rw [← HO.out]; rfl)) ?_ ?_
          rotate_left
          · go_simp; (try with_reducible rfl)
          simp only [Act.put, List.setIfInBounds_toArray, List.set_cons_zero, List.set_cons_succ]
          refine Hn.take (v := ?_) (by first | rfl | (rw [← HO.out]; rfl)) ?_ ?_
          rotate_left
          · go_simp; (try with_reducible rfl)
          simp only [Act.put, List.setIfInBounds_toArray, List.set_cons_zero, List.set_cons_succ]
          clear HO
          refine Hn.done ?_
          go_wp2_with fail
          go_roundw
          case rel => exact ⟨k + 1, false, by omega, rfl, rfl, HBn, HT2, HL2, HX2⟩
          case measure => simp only [intOf]; omega
        rw [e1] at HBs
        cases e2 : (xc == tcy)
        · skip
          rw [e2] at HBs
          have HBn : Hid (false = (m.windows.take (k + 1)).any (fit2 tat tcy trp tul st)) := by show _ = _; rw [HBs.out]; first | rfl | simp
          clear HBs
          refine wp_region_lit ?_
          generalize hO : (List.toArray (_ : List Oper)) = OPS
          have HO : Hid (_ = OPS) := hO
          clear hO
          refine Hn.take (v := ?_) (by first | rfl | (rw [← HO.out]; rfl)) ?_ ?_
          rotate_left
          · go_simp; (try with_reducible rfl)
          simp only [Act.put, List.setIfInBounds_toArray, List.set_cons_zero, List.set_cons_succ]
          refine Hn.take (v := ?_) (by first | rfl | (rw [← HO.out]; rfl)) ?_ ?_
          rotate_left
          · go_simp; (try with_reducible rfl)
          simp only [Act.put, List.setIfInBounds_toArray, List.set_cons_zero, List.set_cons_succ]
          refine Hn.take (v := ?_) (by first | rfl | (rw [← HO.out]; rfl)) ?_ ?_
          rotate_left
          · go_simp; (try with_reducible rfl)
          simp only [Act.put, List.setIfInBounds_toArray, List.set_cons_zero, List.set_cons_succ]
          refine Hn.take (v := ?_) (by first | rfl | (rw [← HO.out]; rfl)) ?_ ?_
          rotate_left
          · go_simp; (try with_reducible rfl)
          simp only [Act.put, List.setIfInBounds_toArray, List.set_cons_zero, List.set_cons_succ]
          refine Hn.take (v := ?_) (by first | rfl | (rw [← HO.out]; rfl)) ?_ ?_
          rotate_left
          · go_simp; (try with_reducible rfl)
          simp only [Act.put, List.setIfInBounds_toArray, List.set_cons_zero, List.set_cons_succ]
          refine Hn.take (v := ?_) (by first | rfl | (rw [← HO.out]; rfl)) ?_ ?_
          rotate_left
          · go_simp; (try with_reducible rfl)
          simp only [Act.put, List.setIfInBounds_toArray, List.set_cons_zero, List.set_cons_succ]
          refine Hn.take (v := ?_) (by first | rfl | (rw [← HO.out]; rfl)) ?_ ?_
          rotate_left
          · go_simp; (try with_reducible rfl)
          simp only [Act.put, List.setIfInBounds_toArray, List.set_cons_zero, List.set_cons_succ]
          refine Hn.take (v := ?_) (by first | rfl | (rw [← HO.out]; rfl)) ?_ ?_
          rotate_left
          · go_simp; (try with_reducible rfl)
          simp only [Act.put, List.setIfInBounds_toArray, List.set_cons_zero, List.set_cons_succ]
          refine Hn.take (v := ?_) (by first | rfl | (rw [← HO.out]; rfl)) ?_ ?_
          rotate_left
          · go_simp; (try with_reducible rfl)
          simp only [Act.put, List.setIfInBounds_toArray, List.set_cons_zero, List.set_cons_succ]
          refine Hn.take (v := ?_) (by first | rfl | (rw [← HO.out]; rfl)) ?_ ?_
          rotate_left
          · go_simp; (try with_reducible rfl)
          simp only [Act.put, List.setIfInBounds_toArray, List.set_cons_zero, List.set_cons_succ]
          refine Hn.take (v := ?_) (by first | rfl | (rw [← HO.out]; rfl)) ?_ ?_
          rotate_left
          · go_simp; (try with_reducible rfl)
          simp only [Act.put, List.setIfInBounds_toArray, List.set_cons_zero, List.set_cons_succ]
          refine Hn.take (v := ?_) (by first | rfl | (rw [← HO.out]; rfl)) ?_ ?_
          rotate_left
          · go_simp; (try with_reducible rfl)
          simp only [Act.put, List.setIfInBounds_toArray, List.set_cons_zero, List.set_cons_succ]
          refine Hn.take (v := ?_) (by first | rfl | (rw [← HO.out]; rfl)) ?_ ?_
          rotate_left
          · go_simp; (try with_reducible rfl)
          simp only [Act.put, List.setIfInBounds_toArray, List.set_cons_zero, List.set_cons_succ]
          refine Hn.take (v := ?_) (by first | rfl | (rw [← HO.out]; rfl)) ?_ ?_
          rotate_left
          · go_simp; (try with_reducible rfl)
          simp only [Act.put, List.setIfInBounds_toArray, List.set_cons_zero, List.set_cons_succ]
          refine Hn.take (v := ?_) (by first | rfl | (rw [← HO.out]; rfl)) ?_ ?_
          rotate_left
          · go_simp; (try with_reducible rfl)
          simp only [Act.put, List.setIfInBounds_toArray, List.set_cons_zero, List.set_cons_succ]
          iterate 5 (refine Hn.skip (by rw [← HO.out]; rfl) ?_; simp only [Act.put, List.setIfInBounds_toArray, List.set_cons_zero, List.set_cons_succ])
          refine Hn.take (v := ?_) (by first | rfl | (rw [← HO.out]; rfl)) ?_ ?_
          rotate_left
          · go_simp; (try with_reducible rfl)
          simp only [Act.put, List.setIfInBounds_toArray, List.set_cons_zero, List.set_cons_succ]
          refine Hn.take (v := ?_) (by first | rfl | (rw [← HO.out]; rfl)) ?_ ?_
          rotate_left
          · go_simp; (try with_reducible rfl)
          simp only [Act.put, List.setIfInBounds_toArray, List.set_cons_zero, List.set_cons_succ]
          iterate 5 (refine Hn.skip (by rw [← HO.out]; rfl) ?_; simp only [Act.put, List.setIfInBounds_toArray, List.set_cons_zero, List.set_cons_succ])
          refine Hn.take (v := ?_) (by first | rfl | (rw [← HO.out]; rfl)) ?_ ?_
          rotate_left
          · go_simp; (try with_reducible rfl)
          simp only [Act.put, List.setIfInBounds_toArray, List.set_cons_zero, List.set_cons_succ]
          refine Hn.take (v := ?_) (by first | rfl | (rw [← HO.out]; rfl)) ?_ ?_
          rotate_left
          · go_simp; (try with_reducible rfl)
          simp only [Act.put, List.setIfInBounds_toArray, List.set_cons_zero, List.set_cons_succ]
          iterate 39 (refine Hn.skip (by rw [← HO.out]; rfl) ?_; simp only [Act.put, List.setIfInBounds_toArray, List.set_cons_zero, List.set_cons_succ])
          refine Hn.take (v := ?_) (by first | rfl | (rw [← HO.out]; rfl)) ?_ ?_
          rotate_left
          · go_simp; (try with_reducible rfl)
          simp only [Act.put, List.setIfInBounds_toArray, List.set_cons_zero, List.set_cons_succ]
          refine Hn.take (v := ?_) (by first | rfl | (rw [← HO.out]; rfl)) ?_ ?_
          rotate_left
          · go_simp; (try with_reducible rfl)
          simp only [Act.put, List.setIfInBounds_toArray, List.set_cons_zero, List.set_cons_succ]
          refine Hn.take (v := ?_) (by first | rfl | (rw [← HO.out]; rfl)) ?_ ?_
          rotate_left
          · go_simp; (try with_reducible rfl)
          simp only [Act.put, List.setIfInBounds_toArray, List.set_cons_zero, List.set_cons_succ]
          clear HO
          refine Hn.done ?_
          go_wp2_with fail
          go_roundw
          case rel => exact ⟨k + 1, false, by omega, rfl, rfl, HBn, HT2, HL2, HX2⟩
          case measure => simp only [intOf]; omega
        rw [e2] at HBs
        cases e3 : (xr == trp)
        · skip
          rw [e3] at HBs
          have HBn : Hid (false = (m.windows.take (k + 1)).any (fit2 tat tcy trp tul st)) := by show _ = _; rw [HBs.out]; first | rfl | simp
          clear HBs
          refine wp_region_lit ?_
          generalize hO : (List.toArray (_ : List Oper)) = OPS
          have HO : Hid (_ = OPS) := hO
          clear hO
          refine Hn.take (v := ?_) (by first | rfl | (rw [← HO.out]; rfl)) ?_ ?_
          rotate_left
          · go_simp; (try with_reducible rfl)
          simp only [Act.put, List.setIfInBounds_toArray, List.set_cons_zero, List.set_cons_succ]
          refine Hn.take (v := ?_) (by first | rfl | (rw [← HO.out]; rfl)) ?_ ?_
          rotate_left
          · go_simp; (try with_reducible rfl)
          simp only [Act.put, List.setIfInBounds_toArray, List.set_cons_zero, List.set_cons_succ]
          refine Hn.take (v := ?_) (by first | rfl | (rw [← HO.out]; rfl)) ?_ ?_
          rotate_left
          · go_simp; (try with_reducible rfl)
          simp only [Act.put, List.setIfInBounds_toArray, List.set_cons_zero, List.set_cons_succ]
          refine Hn.take (v := ?_) (by first | rfl | (rw [← HO.out]; rfl)) ?_ ?_
          rotate_left
          · go_simp; (try with_reducible rfl)
          simp only [Act.put, List.setIfInBounds_toArray, List.set_cons_zero, List.set_cons_succ]
          refine Hn.take (v := ?_) (by first | rfl | (rw [← HO.out]; rfl)) ?_ ?_
          rotate_left
          · go_simp; (try with_reducible rfl)
          simp only [Act.put, List.setIfInBounds_toArray, List.set_cons_zero, List.set_cons_succ]
          refine Hn.take (v := ?_) (by first | rfl | (rw [← HO.out]; rfl)) ?_ ?_
          rotate_left
          · go_simp; (try with_reducible rfl)
          simp only [Act.put, List.setIfInBounds_toArray, List.set_cons_zero, List.set_cons_succ]
          refine Hn.take (v := ?_) (by first | rfl | (rw [← HO.out]; rfl)) ?_ ?_
          rotate_left
          · go_simp; (try with_reducible rfl)
          simp only [Act.put, List.setIfInBounds_toArray, List.set_cons_zero, List.set_cons_succ]
          refine Hn.take (v := ?_) (by first | rfl | (rw [← HO.out]; rfl)) ?_ ?_
          rotate_left
          · go_simp; (try with_reducible rfl)
          simp only [Act.put, List.setIfInBounds_toArray, List.set_cons_zero, List.set_cons_succ]
          refine Hn.take (v := ?_) (by first | rfl | (rw [← HO.out]; rfl)) ?_ ?_
          rotate_left
          · go_simp; (try with_reducible rfl)
          simp only [Act.put, List.setIfInBounds_toArray, List.set_cons_zero, List.set_cons_succ]
          refine Hn.take (v := ?_) (by first | rfl | (rw [← HO.out]; rfl)) ?_ ?_
          rotate_left
          · go_simp; (try with_reducible rfl)
          simp only [Act.put, List.setIfInBounds_toArray, List.set_cons_zero, List.set_cons_succ]
          refine Hn.take (v := ?_) (by first | rfl | (rw [← HO.out]; rfl)) ?_ ?_
          rotate_left
          · go_simp; (try with_reducible rfl)
          simp only [Act.put, List.setIfInBounds_toArray, List.set_cons_zero, List.set_cons_succ]
          refine Hn.take (v := ?_) (by first | rfl | (rw [← HO.out]; rfl)) ?_ ?_
          rotate_left
          · go_simp; (try with_reducible rfl)
          simp only [Act.put, List.setIfInBounds_toArray, List.set_cons_zero, List.set_cons_succ]
          refine Hn.take (v := ?_) (by first | rfl | (rw [← HO.out]; rfl)) ?_ ?_
          rotate_left
          · go_simp; (try with_reducible rfl)
          simp only [Act.put, List.setIfInBounds_toArray, List.set_cons_zero, List.set_cons_succ]
          refine Hn.take (v := ?_) (by first | rfl | (rw [← HO.out]; rfl)) ?_ ?_
          rotate_left
          · go_simp; (try with_reducible rfl)
          simp only [Act.put, List.setIfInBounds_toArray, List.set_cons_zero, List.set_cons_succ]
          refine Hn.take (v := ?_) (by first | rfl | (rw [← HO.out]; rfl)) ?_ ?_
          rotate_left
          · go_simp; (try with_reducible rfl)
          simp only [Act.put, List.setIfInBounds_toArray, List.set_cons_zero, List.set_cons_succ]
          refine Hn.take (v := ?_) (by first | rfl | (rw [← HO.out]; rfl)) ?_ ?_
          rotate_left
          · go_simp; (try with_reducible rfl)
          simp only [Act.put, List.setIfInBounds_toArray, List.set_cons_zero, List.set_cons_succ]
          refine Hn.take (v := ?_) (by first | rfl | (rw [← HO.out]; rfl)) ?_ ?_
          rotate_left
          · go_simp; (try with_reducible rfl)
          simp only [Act.put, List.setIfInBounds_toArray, List.set_cons_zero, List.set_cons_succ]
          refine Hn.take (v := ?_) (by first | rfl | (rw [← HO.out]; rfl)) ?_ ?_
          rotate_left
          · go_simp; (try with_reducible rfl)
          simp only [Act.put, List.setIfInBounds_toArray, List.set_cons_zero, List.set_cons_succ]
          refine Hn.take (v := ?_) (by first | rfl | (rw [← HO.out]; rfl)) ?_ ?_
          rotate_left
          · go_simp; (try with_reducible rfl)
          simp only [Act.put, List.setIfInBounds_toArray, List.set_cons_zero, List.set_cons_succ]
          refine Hn.take (v := ?_) (by first | rfl | (rw [← HO.out]; rfl)) ?_ ?_
          rotate_left
          · go_simp; (try with_reducible rfl)
          simp only [Act.put, List.setIfInBounds_toArray, List.set_cons_zero, List.set_cons_succ]
          refine Hn.take (v := ?_) (by first | rfl | (rw [← HO.out]; rfl)) ?_ ?_
          rotate_left
          · go_simp; (try with_reducible rfl)
          simp only [Act.put, List.setIfInBounds_toArray, List.set_cons_zero, List.set_cons_succ]
          refine Hn.take (v := ?_) (by first | rfl | (rw [← HO.out]; rfl)) ?_ ?_
          rotate_left
          · go_simp; (try with_reducible rfl)
          simp only [Act.put, List.setIfInBounds_toArray, List.set_cons_zero, List.set_cons_succ]
          iterate 5 (refine Hn.skip (by rw [← HO.out]; rfl) ?_; simp only [Act.put, List.setIfInBounds_toArray, List.set_cons_zero, List.set_cons_succ])
          refine Hn.take (v := ?_) (by first | rfl | (rw [← HO.out]; rfl)) ?_ ?_
          rotate_left
          · go_simp; (try with_reducible rfl)
          simp only [Act.put, List.setIfInBounds_toArray, List.set_cons_zero, List.set_cons_succ]
          refine Hn.take (v := ?_) (by first | rfl | (rw [← HO.out]; rfl)) ?_ ?_
          rotate_left
          · go_simp; (try with_reducible rfl)
          simp only [Act.put, List.setIfInBounds_toArray, List.set_cons_zero, List.set_cons_succ]
          iterate 39 (refine Hn.skip (by rw [← HO.out]; rfl) ?_; simp only [Act.put, List.setIfInBounds_toArray, List.set_cons_zero, List.set_cons_succ])
          refine Hn.take (v := ?_) (by first | rfl | (rw [← HO.out]; rfl)) ?_ ?_
          rotate_left
          · go_simp; (try with_reducible rfl)
          simp only [Act.put, List.setIfInBounds_toArray, List.set_cons_zero, List.set_cons_succ]
          refine Hn.take (v := ?_) (by first | rfl | (rw [← HO.out]; rfl)) ?_ ?_
          rotate_left
          · go_simp; (try with_reducible rfl)
          simp only [Act.put, List.setIfInBounds_toArray, List.set_cons_zero, List.set_cons_succ]
          refine Hn.take (v := ?_) (by first | rfl | (rw [← HO.out]; rfl)) ?_ ?_
          rotate_left
          · go_simp; (try with_reducible rfl)
          simp only [Act.put, List.setIfInBounds_toArray, List.set_cons_zero, List.set_cons_succ]
          clear HO
          refine Hn.done ?_
          go_wp2_with fail
          go_roundw
          case rel => exact ⟨k + 1, false, by omega, rfl, rfl, HBn, HT2, HL2, HX2⟩
          case measure => simp only [intOf]; omega
        rw [e3] at HBs
        cases e4 : (tul + st == xf)
        · skip
          rw [e4] at HBs
          have HBn : Hid (false = (m.windows.take (k + 1)).any (fit2 tat tcy trp tul st)) := by show _ = _; rw [HBs.out]; first | rfl | simp
          clear HBs
          refine wp_region_lit ?_
          generalize hO : (List.toArray (_ : List Oper)) = OPS
          have HO : Hid (_ = OPS) := hO
          clear hO
          refine Hn.take (v := ?_) (by first | rfl | (rw [← HO.out]; rfl)) ?_ ?_
          rotate_left
          · go_simp; (try with_reducible rfl)
          simp only [Act.put, List.setIfInBounds_toArray, List.set_cons_zero, List.set_cons_succ]
          refine Hn.take (v := ?_) (by first | rfl | (rw [← HO.out]; rfl)) ?_ ?_
          rotate_left
          · go_simp; (try with_reducible rfl)
          simp only [Act.put, List.setIfInBounds_toArray, List.set_cons_zero, List.set_cons_succ]
          refine Hn.take (v := ?_) (by first | rfl | (rw [← HO.out]; rfl)) ?_ ?_
          rotate_left
          · go_simp; (try with_reducible rfl)
          simp only [Act.put, List.setIfInBounds_toArray, List.set_cons_zero, List.set_cons_succ]
          refine Hn.take (v := ?_) (by first | rfl | (rw [← HO.out]; rfl)) ?_ ?_
          rotate_left
          · go_simp; (try with_reducible rfl)
          simp only [Act.put, List.setIfInBounds_toArray, List.set_cons_zero, List.set_cons_succ]
          refine Hn.take (v := ?_) (by first | rfl | (rw [← HO.out]; rfl)) ?_ ?_
          rotate_left
          · go_simp; (try with_reducible rfl)
          simp only [Act.put, List.setIfInBounds_toArray, List.set_cons_zero, List.set_cons_succ]
          refine Hn.take (v := ?_) (by first | rfl | (rw [← HO.out]; rfl)) ?_ ?_
          rotate_left
          · go_simp; (try with_reducible rfl)
          simp only [Act.put, List.setIfInBounds_toArray, List.set_cons_zero, List.set_cons_succ]
          refine Hn.take (v := ?_) (by first | rfl | (rw [← HO.out]; rfl)) ?_ ?_
          rotate_left
          · go_simp; (try with_reducible rfl)
          simp only [Act.put, List.setIfInBounds_toArray, List.set_cons_zero, List.set_cons_succ]
          refine Hn.take (v := ?_) (by first | rfl | (rw [← HO.out]; rfl)) ?_ ?_
          rotate_left
          · go_simp; (try with_reducible rfl)
          simp only [Act.put, List.setIfInBounds_toArray, List.set_cons_zero, List.set_cons_succ]
          refine Hn.take (v := ?_) (by first | rfl | (rw [← HO.out]; rfl)) ?_ ?_
          rotate_left
          · go_simp; (try with_reducible rfl)
          simp only [Act.put, List.setIfInBounds_toArray, List.set_cons_zero, List.set_cons_succ]
          refine Hn.take (v := ?_) (by first | rfl | (rw [← HO.out]; rfl)) ?_ ?_
          rotate_left
          · go_simp; (try with_reducible rfl)
          simp only [Act.put, List.setIfInBounds_toArray, List.set_cons_zero, List.set_cons_succ]
          refine Hn.take (v := ?_) (by first | rfl | (rw [← HO.out]; rfl)) ?_ ?_
          rotate_left
          · go_simp; (try with_reducible rfl)
          simp only [Act.put, List.setIfInBounds_toArray, List.set_cons_zero, List.set_cons_succ]
          refine Hn.take (v := ?_) (by first | rfl | (rw [← HO.out]; rfl)) ?_ ?_
          rotate_left
          · go_simp; (try with_reducible rfl)
          simp only [Act.put, List.setIfInBounds_toArray, List.set_cons_zero, List.set_cons_succ]
          refine Hn.take (v := ?_) (by first | rfl | (rw [← HO.out]; rfl)) ?_ ?_
          rotate_left
          · go_simp; (try with_reducible rfl)
          simp only [Act.put, List.setIfInBounds_toArray, List.set_cons_zero, List.set_cons_succ]
          refine Hn.take (v := ?_) (by first | rfl | (rw [← HO.out]; rfl)) ?_ ?_
          rotate_left
          · go_simp; (try with_reducible rfl)
          simp only [Act.put, List.setIfInBounds_toArray, List.set_cons_zero, List.set_cons_succ]
          refine Hn.take (v := ?_) (by first | rfl | (rw [← HO.out]; rfl)) ?_ ?_
          rotate_left
          · go_simp; (try with_reducible rfl)
          simp only [Act.put, List.setIfInBounds_toArray, List.set_cons_zero, List.set_cons_succ]
          refine Hn.take (v := ?_) (by first | rfl | (rw [← HO.out]; rfl)) ?_ ?_
          rotate_left
          · go_simp; (try with_reducible rfl)
          simp only [Act.put, List.setIfInBounds_toArray, List.set_cons_zero, List.set_cons_succ]
          refine Hn.take (v := ?_) (by first | rfl | (rw [← HO.out]; rfl)) ?_ ?_
          rotate_left
          · go_simp; (try with_reducible rfl)
          simp only [Act.put, List.setIfInBounds_toArray, List.set_cons_zero, List.set_cons_succ]
          refine Hn.take (v := ?_) (by first | rfl | (rw [← HO.out]; rfl)) ?_ ?_
          rotate_left
          · go_simp; (try with_reducible rfl)
          simp only [Act.put, List.setIfInBounds_toArray, List.set_cons_zero, List.set_cons_succ]
          refine Hn.take (v := ?_) (by first | rfl | (rw [← HO.out]; rfl)) ?_ ?_
          rotate_left
          · go_simp; (try with_reducible rfl)
          simp only [Act.put, List.setIfInBounds_toArray, List.set_cons_zero, List.set_cons_succ]
          refine Hn.take (v := ?_) (by first | rfl | (rw [← HO.out]; rfl)) ?_ ?_
          rotate_left
          · go_simp; (try with_reducible rfl)
          simp only [Act.put, List.setIfInBounds_toArray, List.set_cons_zero, List.set_cons_succ]
          refine Hn.take (v := ?_) (by first | rfl | (rw [← HO.out]; rfl)) ?_ ?_
          rotate_left
          · go_simp; (try with_reducible rfl)
          simp only [Act.put, List.setIfInBounds_toArray, List.set_cons_zero, List.set_cons_succ]
          refine Hn.take (v := ?_) (by first | rfl | (rw [← HO.out]; rfl)) ?_ ?_
          rotate_left
          · go_simp; (try with_reducible rfl)
          simp only [Act.put, List.setIfInBounds_toArray, List.set_cons_zero, List.set_cons_succ]
          refine Hn.take (v := ?_) (by first | rfl | (rw [← HO.out]; rfl)) ?_ ?_
          rotate_left
          · go_simp; (try with_reducible rfl)
          simp only [Act.put, List.setIfInBounds_toArray, List.set_cons_zero, List.set_cons_succ]
          refine Hn.take (v := ?_) (by first | rfl | (rw [← HO.out]; rfl)) ?_ ?_
          rotate_left
          · go_simp; (try with_reducible rfl)
          simp only [Act.put, List.setIfInBounds_toArray, List.set_cons_zero, List.set_cons_succ]
          refine Hn.take (v := ?_) (by first | rfl | (rw [← HO.out]; rfl)) ?_ ?_
          rotate_left
          · go_simp; (try with_reducible rfl)
          simp only [Act.put, List.setIfInBounds_toArray, List.set_cons_zero, List.set_cons_succ]
          refine Hn.take (v := ?_) (by first | rfl | (rw [← HO.out]; rfl)) ?_ ?_
          rotate_left
          · go_simp; (try with_reducible rfl)
          simp only [Act.put, List.setIfInBounds_toArray, List.set_cons_zero, List.set_cons_succ]
          refine Hn.take (v := ?_) (by first | rfl | (rw [← HO.out]; rfl)) ?_ ?_
          rotate_left
          · go_simp; (try with_reducible rfl)
          simp only [Act.put, List.setIfInBounds_toArray, List.set_cons_zero, List.set_cons_succ]
          refine Hn.take (v := ?_) (by first | rfl | (rw [← HO.out]; rfl)) ?_ ?_
          rotate_left
          · go_simp; (try with_reducible rfl)
          simp only [Act.put, List.setIfInBounds_toArray, List.set_cons_zero, List.set_cons_succ]
          refine Hn.take (v := ?_) (by first | rfl | (rw [← HO.out]; rfl)) ?_ ?_
          rotate_left
          · go_simp; (try with_reducible rfl)
          simp only [Act.put, List.setIfInBounds_toArray, List.set_cons_zero, List.set_cons_succ]
          refine Hn.take (v := ?_) (by first | rfl | (rw [← HO.out]; rfl)) ?_ ?_
          rotate_left
          · go_simp; (try with_reducible rfl)
          simp only [Act.put, List.setIfInBounds_toArray, List.set_cons_zero, List.set_cons_succ]
          refine Hn.take (v := ?_) (by first | rfl | (rw [← HO.out]; rfl)) ?_ ?_
          rotate_left
          · go_simp; (try with_reducible rfl)
          simp only [Act.put, List.setIfInBounds_toArray, List.set_cons_zero, List.set_cons_succ]
          refine Hn.take (v := ?_) (by first | rfl | (rw [← HO.out]; rfl)) ?_ ?_
          rotate_left
          · go_simp; (try with_reducible rfl)
          simp only [Act.put, List.setIfInBounds_toArray, List.set_cons_zero, List.set_cons_succ]
          refine Hn.take (v := ?_) (by first | rfl | (rw [← HO.out]; rfl)) ?_ ?_
          rotate_left
          · go_simp; (try with_reducible rfl)
          simp only [Act.put, List.setIfInBounds_toArray, List.set_cons_zero, List.set_cons_succ]
          iterate 8 (refine Hn.skip (by rw [← HO.out]; rfl) ?_; simp only [Act.put, List.setIfInBounds_toArray, List.set_cons_zero, List.set_cons_succ])
          refine Hn.take (v := ?_) (by first | rfl | (rw [← HO.out]; rfl)) ?_ ?_
          rotate_left
          · go_simp; (try with_reducible rfl)
          simp only [Act.put, List.setIfInBounds_toArray, List.set_cons_zero, List.set_cons_succ]
          refine Hn.take (v := ?_) (by first | rfl | (rw [← HO.out]; rfl)) ?_ ?_
          rotate_left
          · go_simp; (try with_reducible rfl)
          simp only [Act.put, List.setIfInBounds_toArray, List.set_cons_zero, List.set_cons_succ]
          iterate 10 (refine Hn.skip (by rw [← HO.out]; rfl) ?_; simp only [Act.put, List.setIfInBounds_toArray, List.set_cons_zero, List.set_cons_succ])
          refine Hn.take (v := ?_) (by first | rfl | (rw [← HO.out]; rfl)) ?_ ?_
          rotate_left
          · go_simp; (try with_reducible rfl)
          simp only [Act.put, List.setIfInBounds_toArray, List.set_cons_zero, List.set_cons_succ]
          refine Hn.take (v := ?_) (by first | rfl | (rw [← HO.out]; rfl)) ?_ ?_
          rotate_left
          · go_simp; (try with_reducible rfl)
          simp only [Act.put, List.setIfInBounds_toArray, List.set_cons_zero, List.set_cons_succ]
          refine Hn.take (v := ?_) (by first | rfl | (rw [← HO.out]; rfl)) ?_ ?_
          rotate_left
          · go_simp; (try with_reducible rfl)
          simp only [Act.put, List.setIfInBounds_toArray, List.set_cons_zero, List.set_cons_succ]
          refine Hn.take (v := ?_) (by first | rfl | (rw [← HO.out]; rfl)) ?_ ?_
          rotate_left
          · go_simp; (try with_reducible rfl)
          simp only [Act.put, List.setIfInBounds_toArray, List.set_cons_zero, List.set_cons_succ]
          refine Hn.take (v := ?_) (by first | rfl | (rw [← HO.out]; rfl)) ?_ ?_
          rotate_left
          · go_simp; (try with_reducible rfl)
          simp only [Act.put, List.setIfInBounds_toArray, List.set_cons_zero, List.set_cons_succ]
          refine Hn.take (v := ?_) (by first | rfl | (rw [← HO.out]; rfl)) ?_ ?_
          rotate_left
          · go_simp; (try with_reducible rfl)
          simp only [Act.put, List.setIfInBounds_toArray, List.set_cons_zero, List.set_cons_succ]
          refine Hn.take (v := ?_) (by first | rfl | (rw [← HO.out]; rfl)) ?_ ?_
          rotate_left
          · go_simp; (try with_reducible rfl)
          simp only [Act.put, List.setIfInBounds_toArray, List.set_cons_zero, List.set_cons_succ]
          refine Hn.take (v := ?_) (by first | rfl | (rw [← HO.out]; rfl)) ?_ ?_
          rotate_left
          · go_simp; (try with_reducible rfl)
          simp only [Act.put, List.setIfInBounds_toArray, List.set_cons_zero, List.set_cons_succ]
          refine Hn.take (v := ?_) (by first | rfl | (rw [← HO.out]; rfl)) ?_ ?_
          rotate_left
          · go_simp; (try with_reducible rfl)
          simp only [Act.put, List.setIfInBounds_toArray, List.set_cons_zero, List.set_cons_succ]
          refine Hn.take (v := ?_) (by first | rfl | (rw [← HO.out]; rfl)) ?_ ?_
          rotate_left
          · go_simp; (try with_reducible rfl)
          simp only [Act.put, List.setIfInBounds_toArray, List.set_cons_zero, List.set_cons_succ]
          refine Hn.take (v := ?_) (by first | rfl | (rw [← HO.out]; rfl)) ?_ ?_
          rotate_left
          · go_simp; (try with_reducible rfl)
          simp only [Act.put, List.setIfInBounds_toArray, List.set_cons_zero, List.set_cons_succ]
          refine Hn.take (v := ?_) (by first | rfl | (rw [← HO.out]; rfl)) ?_ ?_
          rotate_left
          · go_simp; (try with_reducible rfl)
          simp only [Act.put, List.setIfInBounds_toArray, List.set_cons_zero, List.set_cons_succ]
          refine Hn.take (v := ?_) (by first | rfl | (rw [← HO.out]; rfl)) ?_ ?_
          rotate_left
          · go_simp; (try with_reducible rfl)
          simp only [Act.put, List.setIfInBounds_toArray, List.set_cons_zero, List.set_cons_succ]
          refine Hn.take (v := ?_) (by first | rfl | (rw [← HO.out]; rfl)) ?_ ?_
          rotate_left
          · go_simp; (try with_reducible rfl)
          simp only [Act.put, List.setIfInBounds_toArray, List.set_cons_zero, List.set_cons_succ]
          refine Hn.take (v := ?_) (by first | rfl | (rw [← HO.out]; rfl)) ?_ ?_
          rotate_left
          · go_simp; (try with_reducible rfl)
          simp only [Act.put, List.setIfInBounds_toArray, List.set_cons_zero, List.set_cons_succ]
          refine Hn.take (v := ?_) (by first | rfl | (rw [← HO.out]; rfl)) ?_ ?_
          rotate_left
          · go_simp; (try with_reducible rfl)
          simp only [Act.put, List.setIfInBounds_toArray, List.set_cons_zero, List.set_cons_succ]
          refine Hn.take (v := ?_) (by first | rfl | (rw [← HO.out]; rfl)) ?_ ?_
          rotate_left
          · go_simp; (try with_reducible rfl)
          simp only [Act.put, List.setIfInBounds_toArray, List.set_cons_zero, List.set_cons_succ]
          refine Hn.take (v := ?_) (by first | rfl | (rw [← HO.out]; rfl)) ?_ ?_
          rotate_left
          · go_simp; (try with_reducible rfl)
          simp only [Act.put, List.setIfInBounds_toArray, List.set_cons_zero, List.set_cons_succ]
          clear HO
          refine Hn.done ?_
          go_wp2_with fail
          go_roundw
          case rel => exact ⟨k + 1, false, by omega, rfl, rfl, HBn, HT2, HL2, HX2⟩
          case measure => simp only [intOf]; omega
        rw [e4] at HBs
        have HBn : Hid (true = (m.windows.take (k + 1)).any (fit2 tat tcy trp tul st)) := by show _ = _; rw [HBs.out]; first | rfl | simp
        clear HBs
        refine wp_region_lit ?_
        generalize hO : (List.toArray (_ : List Oper)) = OPS
        have HO : Hid (_ = OPS) := hO
        clear hO
        refine Hn.take (v := ?_) (by first | rfl | (rw [← HO.out]; rfl)) ?_ ?_
        rotate_left
        · go_simp; (try with_reducible rfl)
        simp only [Act.put, List.setIfInBounds_toArray, List.set_cons_zero, List.set_cons_succ]
        refine Hn.take (v := ?_) (by first | rfl | (rw [← HO.out]; rfl)) ?_ ?_
        rotate_left
        · go_simp; (try with_reducible rfl)
        simp only [Act.put, List.setIfInBounds_toArray, List.set_cons_zero, List.set_cons_succ]
        refine Hn.take (v := ?_) (by first | rfl | (rw [← HO.out]; rfl)) ?_ ?_
        rotate_left
        · go_simp; (try with_reducible rfl)
        simp only [Act.put, List.setIfInBounds_toArray, List.set_cons_zero, List.set_cons_succ]
        refine Hn.take (v := ?_) (by first | rfl | (rw [← HO.out]; rfl)) ?_ ?_
        rotate_left
        · go_simp; (try with_reducible rfl)
        simp only [Act.put, List.setIfInBounds_toArray, List.set_cons_zero, List.set_cons_succ]
        refine Hn.take (v := ?_) (by first | rfl | (rw [← HO.out]; rfl)) ?_ ?_
        rotate_left
        · go_simp; (try with_reducible rfl)
        simp only [Act.put, List.setIfInBounds_toArray, List.set_cons_zero, List.set_cons_succ]
        refine Hn.take (v := ?_) (by first | rfl | (rw [← HO.out]; rfl)) ?_ ?_
        rotate_left
        · go_simp; (try with_reducible rfl)
        simp only [Act.put, List.setIfInBounds_toArray, List.set_cons_zero, List.set_cons_succ]
        refine Hn.take (v := ?_) (by first | rfl | (rw [← HO.out]; rfl)) ?_ ?_
        rotate_left
        · go_simp; (try with_reducible rfl)
        simp only [Act.put, List.setIfInBounds_toArray, List.set_cons_zero, List.set_cons_succ]
        refine Hn.take (v := ?_) (by first | rfl | (rw [← HO.out]; rfl)) ?_ ?_
        rotate_left
        · go_simp; (try with_reducible rfl)
        simp only [Act.put, List.setIfInBounds_toArray, List.set_cons_zero, List.set_cons_succ]
        refine Hn.take (v := ?_) (by first | rfl | (rw [← HO.out]; rfl)) ?_ ?_
        rotate_left
        · go_simp; (try with_reducible rfl)
        simp only [Act.put, List.setIfInBounds_toArray, List.set_cons_zero, List.set_cons_succ]
        refine Hn.take (v := ?_) (by first | rfl | (rw [← HO.out]; rfl)) ?_ ?_
        rotate_left
        · go_simp; (try with_reducible rfl)
        simp only [Act.put, List.setIfInBounds_toArray, List.set_cons_zero, List.set_cons_succ]
        refine Hn.take (v := ?_) (by first | rfl | (rw [← HO.out]; rfl)) ?_ ?_
        rotate_left
        · go_simp; (try with_reducible rfl)
        simp only [Act.put, List.setIfInBounds_toArray, List.set_cons_zero, List.set_cons_succ]
        refine Hn.take (v := ?_) (by first | rfl | (rw [← HO.out]; rfl)) ?_ ?_
        rotate_left
        · go_simp; (try with_reducible rfl)
        simp only [Act.put, List.setIfInBounds_toArray, List.set_cons_zero, List.set_cons_succ]
        refine Hn.take (v := ?_) (by first | rfl | (rw [← HO.out]; rfl)) ?_ ?_
        rotate_left
        · go_simp; (try with_reducible rfl)
        simp only [Act.put, List.setIfInBounds_toArray, List.set_cons_zero, List.set_cons_succ]
        refine Hn.take (v := ?_) (by first | rfl | (rw [← HO.out]; rfl)) ?_ ?_
        rotate_left
        · go_simp; (try with_reducible rfl)
        simp only [Act.put, List.setIfInBounds_toArray, List.set_cons_zero, List.set_cons_succ]
        refine Hn.take (v := ?_) (by first | rfl | (rw [← HO.out]; rfl)) ?_ ?_
        rotate_left
        · go_simp; (try with_reducible rfl)
        simp only [Act.put, List.setIfInBounds_toArray, List.set_cons_zero, List.set_cons_succ]
        refine Hn.take (v := ?_) (by first | rfl | (rw [← HO.out]; rfl)) ?_ ?_
        rotate_left
        · go_simp; (try with_reducible rfl)
        simp only [Act.put, List.setIfInBounds_toArray, List.set_cons_zero, List.set_cons_succ]
        refine Hn.take (v := ?_) (by first | rfl | (rw [← HO.out]; rfl)) ?_ ?_
        rotate_left
        · go_simp; (try with_reducible rfl)
        simp only [Act.put, List.setIfInBounds_toArray, List.set_cons_zero, List.set_cons_succ]
        refine Hn.take (v := ?_) (by first | rfl | (rw [← HO.out]; rfl)) ?_ ?_
        rotate_left
        · go_simp; (try with_reducible rfl)
        simp only [Act.put, List.setIfInBounds_toArray, List.set_cons_zero, List.set_cons_succ]
        refine Hn.take (v := ?_) (by first | rfl | (rw [← HO.out]; rfl)) ?_ ?_
        rotate_left
        · go_simp; (try with_reducible rfl)
        simp only [Act.put, List.setIfInBounds_toArray, List.set_cons_zero, List.set_cons_succ]
        refine Hn.take (v := ?_) (by first | rfl | (rw [← HO.out]; rfl)) ?_ ?_
        rotate_left
        · go_simp; (try with_reducible rfl)
        simp only [Act.put, List.setIfInBounds_toArray, List.set_cons_zero, List.set_cons_succ]
        refine Hn.take (v := ?_) (by first | rfl | (rw [← HO.out]; rfl)) ?_ ?_
        rotate_left
        · go_simp; (try with_reducible rfl)
        simp only [Act.put, List.setIfInBounds_toArray, List.set_cons_zero, List.set_cons_succ]
        refine Hn.take (v := ?_) (by first | rfl | (rw [← HO.out]; rfl)) ?_ ?_
        rotate_left
        · go_simp; (try with_reducible rfl)
        simp only [Act.put, List.setIfInBounds_toArray, List.set_cons_zero, List.set_cons_succ]
        refine Hn.take (v := ?_) (by first | rfl | (rw [← HO.out]; rfl)) ?_ ?_
        rotate_left
        · go_simp; (try with_reducible rfl)
        simp only [Act.put, List.setIfInBounds_toArray, List.set_cons_zero, List.set_cons_succ]
        refine Hn.take (v := ?_) (by first | rfl | (rw [← HO.out]; rfl)) ?_ ?_
        rotate_left
        · go_simp; (try with_reducible rfl)
        simp only [Act.put, List.setIfInBounds_toArray, List.set_cons_zero, List.set_cons_succ]
        refine Hn.take (v := ?_) (by first | rfl | (rw [← HO.out]; rfl)) ?_ ?_
        rotate_left
        · go_simp; (try with_reducible rfl)
        simp only [Act.put, List.setIfInBounds_toArray, List.set_cons_zero, List.set_cons_succ]
        refine Hn.take (v := ?_) (by first | rfl | (rw [← HO.out]; rfl)) ?_ ?_
        rotate_left
        · go_simp; (try with_reducible rfl)
        simp only [Act.put, List.setIfInBounds_toArray, List.set_cons_zero, List.set_cons_succ]
        refine Hn.take (v := ?_) (by first | rfl | (rw [← HO.out]; rfl)) ?_ ?_
        rotate_left
        · go_simp; (try with_reducible rfl)
        simp only [Act.put, List.setIfInBounds_toArray, List.set_cons_zero, List.set_cons_succ]
        refine Hn.take (v := ?_) (by first | rfl | (rw [← HO.out]; rfl)) ?_ ?_
        rotate_left
        · go_simp; (try with_reducible rfl)
        simp only [Act.put, List.setIfInBounds_toArray, List.set_cons_zero, List.set_cons_succ]
        refine Hn.take (v := ?_) (by first | rfl | (rw [← HO.out]; rfl)) ?_ ?_
        rotate_left
        · go_simp; (try with_reducible rfl)
        simp only [Act.put, List.setIfInBounds_toArray, List.set_cons_zero, List.set_cons_succ]
        refine Hn.take (v := ?_) (by first | rfl | (rw [← HO.out]; rfl)) ?_ ?_
        rotate_left
        · go_simp; (try with_reducible rfl)
        simp only [Act.put, List.setIfInBounds_toArray, List.set_cons_zero, List.set_cons_succ]
        refine Hn.take (v := ?_) (by first | rfl | (rw [← HO.out]; rfl)) ?_ ?_
        rotate_left
        · go_simp; (try with_reducible rfl)
        simp only [Act.put, List.setIfInBounds_toArray, List.set_cons_zero, List.set_cons_succ]
        refine Hn.take (v := ?_) (by first | rfl | (rw [← HO.out]; rfl)) ?_ ?_
        rotate_left
        · go_simp; (try with_reducible rfl)
        simp only [Act.put, List.setIfInBounds_toArray, List.set_cons_zero, List.set_cons_succ]
        refine Hn.take (v := ?_) (by first | rfl | (rw [← HO.out]; rfl)) ?_ ?_
        rotate_left
        · go_simp; (try with_reducible rfl)
        simp only [Act.put, List.setIfInBounds_toArray, List.set_cons_zero, List.set_cons_succ]
        iterate 8 (refine Hn.skip (by rw [← HO.out]; rfl) ?_; simp only [Act.put, List.setIfInBounds_toArray, List.set_cons_zero, List.set_cons_succ])
        refine Hn.take (v := ?_) (by first | rfl | (rw [← HO.out]; rfl)) ?_ ?_
        rotate_left
        · go_simp; (try with_reducible rfl)
        simp only [Act.put, List.setIfInBounds_toArray, List.set_cons_zero, List.set_cons_succ]
        refine Hn.take (v := ?_) (by first | rfl | (rw [← HO.out]; rfl)) ?_ ?_
        rotate_left
        · go_simp; (try with_reducible rfl)
        simp only [Act.put, List.setIfInBounds_toArray, List.set_cons_zero, List.set_cons_succ]
        iterate 10 (refine Hn.skip (by rw [← HO.out]; rfl) ?_; simp only [Act.put, List.setIfInBounds_toArray, List.set_cons_zero, List.set_cons_succ])
        refine Hn.take (v := ?_) (by first | rfl | (rw [← HO.out]; rfl)) ?_ ?_
        rotate_left
        · go_simp; (try with_reducible rfl)
        simp only [Act.put, List.setIfInBounds_toArray, List.set_cons_zero, List.set_cons_succ]
        refine Hn.take (v := ?_) (by first | rfl | (rw [← HO.out]; rfl)) ?_ ?_
        rotate_left
        · go_simp; (try with_reducible rfl)
        simp only [Act.put, List.setIfInBounds_toArray, List.set_cons_zero, List.set_cons_succ]
        refine Hn.take (v := ?_) (by first | rfl | (rw [← HO.out]; rfl)) ?_ ?_
        rotate_left
        · go_simp; (try with_reducible rfl)
        simp only [Act.put, List.setIfInBounds_toArray, List.set_cons_zero, List.set_cons_succ]
        refine Hn.take (v := ?_) (by first | rfl | (rw [← HO.out]; rfl)) ?_ ?_
        rotate_left
        · go_simp; (try with_reducible rfl)
        simp only [Act.put, List.setIfInBounds_toArray, List.set_cons_zero, List.set_cons_succ]
        refine Hn.take (v := ?_) (by first | rfl | (rw [← HO.out]; rfl)) ?_ ?_
        rotate_left
        · go_simp; (try with_reducible rfl)
        simp only [Act.put, List.setIfInBounds_toArray, List.set_cons_zero, List.set_cons_succ]
        refine Hn.take (v := ?_) (by first | rfl | (rw [← HO.out]; rfl)) ?_ ?_
        rotate_left
        · go_simp; (try with_reducible rfl)
        simp only [Act.put, List.setIfInBounds_toArray, List.set_cons_zero, List.set_cons_succ]
        refine Hn.take (v := ?_) (by first | rfl | (rw [← HO.out]; rfl)) ?_ ?_
        rotate_left
        · go_simp; (try with_reducible rfl)
        simp only [Act.put, List.setIfInBounds_toArray, List.set_cons_zero, List.set_cons_succ]
        refine Hn.take (v := ?_) (by first | rfl | (rw [← HO.out]; rfl)) ?_ ?_
        rotate_left
        · go_simp; (try with_reducible rfl)
        simp only [Act.put, List.setIfInBounds_toArray, List.set_cons_zero, List.set_cons_succ]
        refine Hn.take (v := ?_) (by first | rfl | (rw [← HO.out]; rfl)) ?_ ?_
        rotate_left
        · go_simp; (try with_reducible rfl)
        simp only [Act.put, List.setIfInBounds_toArray, List.set_cons_zero, List.set_cons_succ]
        refine Hn.take (v := ?_) (by first | rfl | (rw [← HO.out]; rfl)) ?_ ?_
        rotate_left
        · go_simp; (try with_reducible rfl)
        simp only [Act.put, List.setIfInBounds_toArray, List.set_cons_zero, List.set_cons_succ]
        refine Hn.take (v := ?_) (by first | rfl | (rw [← HO.out]; rfl)) ?_ ?_
        rotate_left
        · go_simp; (try with_reducible rfl)
        simp only [Act.put, List.setIfInBounds_toArray, List.set_cons_zero, List.set_cons_succ]
        refine Hn.take (v := ?_) (by first | rfl | (rw [← HO.out]; rfl)) ?_ ?_
        rotate_left
        · go_simp; (try with_reducible rfl)
        simp only [Act.put, List.setIfInBounds_toArray, List.set_cons_zero, List.set_cons_succ]
        refine Hn.take (v := ?_) (by first | rfl | (rw [← HO.out]; rfl)) ?_ ?_
        rotate_left
        · go_simp; (try with_reducible rfl)
        simp only [Act.put, List.setIfInBounds_toArray, List.set_cons_zero, List.set_cons_succ]
        refine Hn.take (v := ?_) (by first | rfl | (rw [← HO.out]; rfl)) ?_ ?_
        rotate_left
        · go_simp; (try with_reducible rfl)
        simp only [Act.put, List.setIfInBounds_toArray, List.set_cons_zero, List.set_cons_succ]
        refine Hn.take (v := ?_) (by first | rfl | (rw [← HO.out]; rfl)) ?_ ?_
        rotate_left
        · go_simp; (try with_reducible rfl)
        simp only [Act.put, List.setIfInBounds_toArray, List.set_cons_zero, List.set_cons_succ]
        refine Hn.take (v := ?_) (by first | rfl | (rw [← HO.out]; rfl)) ?_ ?_
        rotate_left
        · go_simp; (try with_reducible rfl)
        simp only [Act.put, List.setIfInBounds_toArray, List.set_cons_zero, List.set_cons_succ]
        refine Hn.take (v := ?_) (by first | rfl | (rw [← HO.out]; rfl)) ?_ ?_
        rotate_left
        · go_simp; (try with_reducible rfl)
        simp only [Act.put, List.setIfInBounds_toArray, List.set_cons_zero, List.set_cons_succ]
        refine Hn.take (v := ?_) (by first | rfl | (rw [← HO.out]; rfl)) ?_ ?_
        rotate_left
        · go_simp; (try with_reducible rfl)
        simp only [Act.put, List.setIfInBounds_toArray, List.set_cons_zero, List.set_cons_succ]
        clear HO
        refine Hn.done ?_
        go_wp2_with fail
        go_roundw
        case rel => exact ⟨k + 1, true, by omega, rfl, rfl, HBn, HT2, HL2, HX2⟩
        case measure => simp only [intOf]; omega
    subst k1
    obtain ⟨xw, hxw, f1, f2, f3, f4, f5⟩ := tx.fits (Or.inl rfl)
    dsimp only at f1 f2 f3 f4 f5
    have hxr := HXw.out xw hxw
    rw [HSt2.out] at f5
    have f6 : tul = tat + m.enable ∧ tul + st - m.enable ≤ xw.fin := by
      rcases f5 with ⟨a, b⟩ | ⟨a, b⟩
      · exact b
      · cases a
    have HAny : Hid (m.windows.any (fit1 tat tcy trp tul st m.enable) = true) := by
      refine List.any_eq_true.2 ⟨xw, hxw, ?_⟩
      unfold fit1
      rw [f1, f2, f3]
      simp
      exact f6.2
    have ta := tx.at_
    dsimp only at ta
    have tge : decide (tat ≤ tul) = true := decide_eq_true f4
    have tb : 0 ≤ tul ∧ tul ≤ 40000 := by omega
    have w1 : IntKind.i64.wrap (tat + m.enable) = tul := by rw [← f6.1, IntKind.wrap_i64]; omega
    have w2 : IntKind.i64.wrap (tul + st) = tul + st := by rw [IntKind.wrap_i64]; omega
    have w3 : IntKind.i64.wrap (tul + st - m.enable) = tul + st - m.enable := by rw [IntKind.wrap_i64]; omega
    clear f1 f2 f3 f5 f6 hxr hxw tx ta tb
    go_upto_block 2 with fail
    clear t0 t1 t2 t3 t4 t5
    generalize wr.alloc (.cells #[.int .i64 1, .int .i64 tat, .int .i64 tcy, .int .i64 trp, .int .i64 tms, .int .i64 tul] 44) = v0 at HT HL' HX' ⊢
    generalize wr.heap.size = gt at HT ⊢
    go_wp2_with fail
    go_loopw [11, 12] (fun vo vk wq => ∃ (k : Nat) (b : Bool), k ≤ m.windows.length ∧ vk = .int .i64 (k : Int) ∧ vo = .bool b ∧ Hid (b = (m.windows.take k).any (fit1 tat tcy trp tul st m.enable)) ∧ Hid (RowT 44 wq gt #[.int .i64 1, .int .i64 tat, .int .i64 tcy, .int .i64 trp, .int .i64 tms, .int .i64 tul]) ∧ Hid (LI wq (some ⟨g, o, none⟩) c1 lp.length (lp.flatMap tC)) ∧ Hid (Bx W wq W.heap.size m a)) (fun _ vk _ => m.windows.length - (intOf vk).toNat)
    case atStart => exact ⟨0, false, Nat.zero_le _, rfl, rfl, rfl, HT, HL', HX'⟩
    case round =>
      clear HT HL' HX'
      obtain ⟨k, b, hk, rfl, rfl, HBk, HT, HL, HX⟩ := hrel
      obtain ⟨y0, y1, y2, y3, y4, y5, y6, y7, y8, y9, y10⟩ := HX.out.row.mat
      by_cases hkl : k < m.windows.length
      rotate_left
      · obtain rfl : k = m.windows.length := by omega
        have kn : ¬ ((m.windows.length : Int) < (m.windows.length : Int)) := by omega
        obtain rfl : b = true := by rw [HBk.out, List.take_length]; exact HAny.out
        clear HBk HAny
        go_wp2_with fail
        go_roundw
        case rel => exact ⟨i + 1, by omega, rfl, HL, HX⟩
        case measure => simp only [intOf]; omega
      obtain ⟨x, hx⟩ : ∃ x, m.windows[k]? = some x := ⟨_, List.getElem?_eq_getElem hkl⟩
      obtain ⟨g3, o3, hs, _, c0, c1', c2, c3, c4, c5⟩ := HX.out.mem.window hx
      have HBs : Hid ((m.windows.take (k + 1)).any (fit1 tat tcy trp tul st m.enable) = (b || (fit1 tat tcy trp tul st m.enable) x)) := by show _ = _; rw [any_step hx, ← HBk.out]
      obtain ⟨xk, xs, xf, xc, xr, xm⟩ := x
      dsimp only at c0 c1' c2 c3 c4 c5
      have ki : (k : Int) < (m.windows.length : Int) := by omega
      have kb : (k : Int) < 1000 := by omega
      have XC : True := trivial
      have HT2 : Hid (RowT 44 (wr.alloc (.cells #[.int .i64 xk, .int .i64 xs, .int .i64 xf, .int .i64 xc, .int .i64 xr, .int .i64 xm] 41)) gt #[.int .i64 1, .int .i64 tat, .int .i64 tcy, .int .i64 trp, .int .i64 tms, .int .i64 tul]) := HT.out.on ((Below.refl _ _).alloc (Nat.le_refl _) _)
      have HL2 : Hid (LI (wr.alloc (.cells #[.int .i64 xk, .int .i64 xs, .int .i64 xf, .int .i64 xc, .int .i64 xr, .int .i64 xm] 41)) (some ⟨g, o, none⟩) c1 lp.length (lp.flatMap tC)) := HL.out.on ((Below.refl _ _).alloc (Nat.le_refl _) _)
      have HX2 : Hid (Bx W (wr.alloc (.cells #[.int .i64 xk, .int .i64 xs, .int .i64 xf, .int .i64 xc, .int .i64 xr, .int .i64 xm] 41)) W.heap.size m a) := HX.out.al _
      have HW2 : Hid (RowT 41 (wr.alloc (.cells #[.int .i64 xk, .int .i64 xs, .int .i64 xf, .int .i64 xc, .int .i64 xr, .int .i64 xm] 41)) wr.heap.size #[.int .i64 xk, .int .i64 xs, .int .i64 xf, .int .i64 xc, .int .i64 xr, .int .i64 xm]) := RowT.new _ _ _
      clear hx HT HL HX HBk
      go_upto_region 18 with fail
      rw [← hs]
      clear hs c0 c1' c2 c3 c4 c5 y0 y1 y2 y3 y4 y5 y6 y7 y8 y9 y10
      generalize wr.alloc (.cells #[.int .i64 xk, .int .i64 xs, .int .i64 xf, .int .i64 xc, .int .i64 xr, .int .i64 xm] 41) = v1 at HT2 HL2 HX2 HW2 ⊢
      generalize wr.heap.size = gw at HW2 ⊢
      have q0 : v1.cell? ⟨gt, 0, none⟩ = some (.int .i64 1) := HT2.out.c 0 _ rfl
      have q1 : v1.cell? ⟨gt, 1, none⟩ = some (.int .i64 tat) := HT2.out.c 1 _ rfl
      have q2 : v1.cell? ⟨gt, 2, none⟩ = some (.int .i64 tcy) := HT2.out.c 2 _ rfl
      have q3 : v1.cell? ⟨gt, 3, none⟩ = some (.int .i64 trp) := HT2.out.c 3 _ rfl
      have q5 : v1.cell? ⟨gt, 5, none⟩ = some (.int .i64 tul) := HT2.out.c 5 _ rfl
      have r1 : v1.cell? ⟨gw, 1, none⟩ = some (.int .i64 xs) := HW2.out.c 1 _ rfl
      have r2 : v1.cell? ⟨gw, 2, none⟩ = some (.int .i64 xf) := HW2.out.c 2 _ rfl
      have r3 : v1.cell? ⟨gw, 3, none⟩ = some (.int .i64 xc) := HW2.out.c 3 _ rfl
      have r4 : v1.cell? ⟨gw, 4, none⟩ = some (.int .i64 xr) := HW2.out.c 4 _ rfl
      have y4 := HX2.out.row.mat.2.2.2.2.1
      have hF : (fit1 tat tcy trp tul st m.enable) ⟨xk, xs, xf, xc, xr, xm⟩ = ((xs == tat) && (xc == tcy) && (xr == trp) && decide (tul + st - m.enable ≤ xf)) := rfl
      rw [hF] at HBs
      clear hF HW2
      cases b
      rotate_left
      · skip
        have HBn : Hid (true = (m.windows.take (k + 1)).any (fit1 tat tcy trp tul st m.enable)) := by show _ = _; rw [HBs.out]; first | rfl | simp
        clear HBs
        refine wp_region_lit ?_
        generalize hO : (List.toArray (_ : List Oper)) = OPS
        have HO : Hid (_ = OPS) := hO
        clear hO
        refine Hn.take (v := ?_) (by first | rfl | (rw [← HO.out]; rfl)) ?_ ?_
        rotate_left
        · go_simp; (try with_reducible rfl)
        simp only [Act.put, List.setIfInBounds_toArray, List.set_cons_zero, List.set_cons_succ]
        refine Hn.take (v := ?_) (by first | rfl | (rw [← HO.out]; rfl)) ?_ ?_
        rotate_left
        · go_simp; (try with_reducible rfl)
        simp only [Act.put, List.setIfInBounds_toArray, List.set_cons_zero, List.set_cons_succ]
        iterate 67 (refine Hn.skip (by rw [← HO.out]; rfl) ?_; simp only [Act.put, List.setIfInBounds_toArray, List.set_cons_zero, List.set_cons_succ])
        refine Hn.take (v := ?_) (by first | rfl | (rw [← HO.out]; rfl)) ?_ ?_
        rotate_left
        · go_simp; (try with_reducible rfl)
        simp only [Act.put, List.setIfInBounds_toArray, List.set_cons_zero, List.set_cons_succ]
        refine Hn.take (v := ?_) (by first | rfl | (rw [← HO.out]; rfl)) ?_ ?_
        rotate_left
        · go_simp; (try with_reducible rfl)
        simp only [Act.put, List.setIfInBounds_toArray, List.set_cons_zero, List.set_cons_succ]
        clear HO
        refine Hn.done ?_
        go_wp2_with fail
        go_roundw
        case rel => exact ⟨k + 1, true, by omega, rfl, rfl, HBn, HT2, HL2, HX2⟩
        case measure => simp only [intOf]; omega
      cases e1 : (xs == tat)
      · skip
        rw [e1] at HBs
        have HBn : Hid (false = (m.windows.take (k + 1)).any (fit1 tat tcy trp tul st m.enable)) := by show _ = _; rw [HBs.out]; first | rfl | simp
        clear HBs
        refine wp_region_lit ?_
        generalize hO : (List.toArray (_ : List Oper)) = OPS
        have HO : Hid (_ = OPS) := hO
        clear hO
        refine Hn.take (v := ?_) (by first | rfl | (rw [← HO.out]; rfl)) ?_ ?_
        rotate_left
        · go_simp; (try with_reducible rfl)
        simp only [Act.put, List.setIfInBounds_toArray, List.set_cons_zero, List.set_cons_succ]
        refine Hn.take (v := ?_) (by first | rfl | (rw [← HO.out]; rfl)) ?_ ?_
        rotate_left
        · go_simp; (try with_reducible rfl)
        simp only [Act.put, List.setIfInBounds_toArray, List.set_cons_zero, List.set_cons_succ]
        refine Hn.take (v := ?_) (by first | rfl | (rw [← HO.out]; rfl)) ?_ ?_
        rotate_left
        · go_simp; (try with_reducible rfl)
        simp only [Act.put, List.setIfInBounds_toArray, List.set_cons_zero, List.set_cons_succ]
        refine Hn.take (v := ?_) (by first | rfl | (rw [← HO.out]; rfl)) ?_ ?_
        rotate_left
        · go_simp; (try with_reducible rfl)
        simp only [Act.put, List.setIfInBounds_toArray, List.set_cons_zero, List.set_cons_succ]
        refine Hn.take (v := ?_) (by first | rfl | (rw [← HO.out]; rfl)) ?_ ?_
        rotate_left
        · go_simp; (try with_reducible rfl)
        simp only [Act.put, List.setIfInBounds_toArray, List.set_cons_zero, List.set_cons_succ]
        refine Hn.take (v := ?_) (by first | rfl | (rw [← HO.out]; rfl)) ?_ ?_
        rotate_left
        · go_simp; (try with_reducible rfl)
        simp only [Act.put, List.setIfInBounds_toArray, List.set_cons_zero, List.set_cons_succ]
        refine Hn.take (v := ?_) (by first | rfl | (rw [← HO.out]; rfl)) ?_ ?_
        rotate_left
        · go_simp; (try with_reducible rfl)
        simp only [Act.put, List.setIfInBounds_toArray, List.set_cons_zero, List.set_cons_succ]
        refine Hn.take (v := ?_) (by first | rfl | (rw [← HO.out]; rfl)) ?_ ?_
        rotate_left
        · go_simp; (try with_reducible rfl)
        simp only [Act.put, List.setIfInBounds_toArray, List.set_cons_zero, List.set_cons_succ]
        iterate 5 (refine Hn.skip (by rw [← HO.out]; rfl) ?_; simp only [Act.put, List.setIfInBounds_toArray, List.set_cons_zero, List.set_cons_succ])
        refine Hn.take (v := ?_) (by first | rfl | (rw [← HO.out]; rfl)) ?_ ?_
        rotate_left
        · go_simp; (try with_reducible rfl)
        simp only [Act.put, List.setIfInBounds_toArray, List.set_cons_zero, List.set_cons_succ]
        refine Hn.take (v := ?_) (by first | rfl | (rw [← HO.out]; rfl)) ?_ ?_
        rotate_left
        · go_simp; (try with_reducible rfl)
        simp only [Act.put, List.setIfInBounds_toArray, List.set_cons_zero, List.set_cons_succ]
        iterate 5 (refine Hn.skip (by rw [← HO.out]; rfl) ?_; simp only [Act.put, List.setIfInBounds_toArray, List.set_cons_zero, List.set_cons_succ])
        refine Hn.take (v := ?_) (by first | rfl | (rw [← HO.out]; rfl)) ?_ ?_
        rotate_left
        · go_simp; (try with_reducible rfl)
        simp only [Act.put, List.setIfInBounds_toArray, List.set_cons_zero, List.set_cons_succ]
        refine Hn.take (v := ?_) (by first | rfl | (rw [← HO.out]; rfl)) ?_ ?_
        rotate_left
        · go_simp; (try with_reducible rfl)
        simp only [Act.put, List.setIfInBounds_toArray, List.set_cons_zero, List.set_cons_succ]
        iterate 5 (refine Hn.skip (by rw [← HO.out]; rfl) ?_; simp only [Act.put, List.setIfInBounds_toArray, List.set_cons_zero, List.set_cons_succ])
        refine Hn.take (v := ?_) (by first | rfl | (rw [← HO.out]; rfl)) ?_ ?_
        rotate_left
        · go_simp; (try with_reducible rfl)
        simp only [Act.put, List.setIfInBounds_toArray, List.set_cons_zero, List.set_cons_succ]
        refine Hn.take (v := ?_) (by first | rfl | (rw [← HO.out]; rfl)) ?_ ?_
        rotate_left
        · go_simp; (try with_reducible rfl)
        simp only [Act.put, List.setIfInBounds_toArray, List.set_cons_zero, List.set_cons_succ]
        iterate 39 (refine Hn.skip (by rw [← HO.out]; rfl) ?_; simp only [Act.put, List.setIfInBounds_toArray, List.set_cons_zero, List.set_cons_succ])
        refine Hn.take (v := ?_) (by first | rfl | (rw [← HO.out]; rfl)) ?_ ?_
        rotate_left
        · go_simp; (try with_reducible rfl)
        simp only [Act.put, List.setIfInBounds_toArray, List.set_cons_zero, List.set_cons_succ]
        refine Hn.take (v := ?_) (by first | rfl | (rw [← HO.out]; rfl)) ?_ ?_
        rotate_left
        · go_simp; (try with_reducible rfl)
        simp only [Act.put, List.setIfInBounds_toArray, List.set_cons_zero, List.set_cons_succ]
        refine Hn.take (v := ?_) (by first | rfl | (rw [← HO.out]; rfl)) ?_ ?_
        rotate_left
        · go_simp; (try with_reducible rfl)
        simp only [Act.put, List.setIfInBounds_toArray, List.set_cons_zero, List.set_cons_succ]
        clear HO
        refine Hn.done ?_
        go_wp2_with fail
        go_roundw
        case rel => exact ⟨k + 1, false, by omega, rfl, rfl, HBn, HT2, HL2, HX2⟩
        case measure => simp only [intOf]; omega
      rw [e1] at HBs
      cases e2 : (xc == tcy)
      · skip
        rw [e2] at HBs
        have HBn : Hid (false = (m.windows.take (k + 1)).any (fit1 tat tcy trp tul st m.enable)) := by show _ = _; rw [HBs.out]; first | rfl | simp
        clear HBs
        refine wp_region_lit ?_
        generalize hO : (List.toArray (_ : List Oper)) = OPS
        have HO : Hid (_ = OPS) := hO
        clear hO
        refine Hn.take (v := ?_) (by first | rfl | (rw [← HO.out]; rfl)) ?_ ?_
        rotate_left
        · go_simp; (try with_reducible rfl)
        simp only [Act.put, List.setIfInBounds_toArray, List.set_cons_zero, List.set_cons_succ]
        refine Hn.take (v := ?_) (by first | rfl | (rw [← HO.out]; rfl)) ?_ ?_
        rotate_left
        · go_simp; (try with_reducible rfl)
        simp only [Act.put, List.setIfInBounds_toArray, List.set_cons_zero, List.set_cons_succ]
        refine Hn.take (v := ?_) (by first | rfl | (rw [← HO.out]; rfl)) ?_ ?_
        rotate_left
        · go_simp; (try with_reducible rfl)
        simp only [Act.put, List.setIfInBounds_toArray, List.set_cons_zero, List.set_cons_succ]
        refine Hn.take (v := ?_) (by first | rfl | (rw [← HO.out]; rfl)) ?_ ?_
        rotate_left
        · go_simp; (try with_reducible rfl)
        simp only [Act.put, List.setIfInBounds_toArray, List.set_cons_zero, List.set_cons_succ]
        refine Hn.take (v := ?_) (by first | rfl | (rw [← HO.out]; rfl)) ?_ ?_
        rotate_left
        · go_simp; (try with_reducible rfl)
        simp only [Act.put, List.setIfInBounds_toArray, List.set_cons_zero, List.set_cons_succ]
        refine Hn.take (v := ?_) (by first | rfl | (rw [← HO.out]; rfl)) ?_ ?_
        rotate_left
        · go_simp; (try with_reducible rfl)
        simp only [Act.put, List.setIfInBounds_toArray, List.set_cons_zero, List.set_cons_succ]
        refine Hn.take (v := ?_) (by first | rfl | (rw [← HO.out]; rfl)) ?_ ?_
        rotate_left
        · go_simp; (try with_reducible rfl)
        simp only [Act.put, List.setIfInBounds_toArray, List.set_cons_zero, List.set_cons_succ]
        refine Hn.take (v := ?_) (by first | rfl | (rw [← HO.out]; rfl)) ?_ ?_
        rotate_left
        · go_simp; (try with_reducible rfl)
        simp only [Act.put, List.setIfInBounds_toArray, List.set_cons_zero, List.set_cons_succ]
        refine Hn.take (v := ?_) (by first | rfl | (rw [← HO.out]; rfl)) ?_ ?_
        rotate_left
        · go_simp; (try with_reducible rfl)
        simp only [Act.put, List.setIfInBounds_toArray, List.set_cons_zero, List.set_cons_succ]
        refine Hn.take (v := ?_) (by first | rfl | (rw [← HO.out]; rfl)) ?_ ?_
        rotate_left
        · go_simp; (try with_reducible rfl)
        simp only [Act.put, List.setIfInBounds_toArray, List.set_cons_zero, List.set_cons_succ]
        refine Hn.take (v := ?_) (by first | rfl | (rw [← HO.out]; rfl)) ?_ ?_
        rotate_left
        · go_simp; (try with_reducible rfl)
        simp only [Act.put, List.setIfInBounds_toArray, List.set_cons_zero, List.set_cons_succ]
        refine Hn.take (v := ?_) (by first | rfl | (rw [← HO.out]; rfl)) ?_ ?_
        rotate_left
        · go_simp; (try with_reducible rfl)
        simp only [Act.put, List.setIfInBounds_toArray, List.set_cons_zero, List.set_cons_succ]
        refine Hn.take (v := ?_) (by first | rfl | (rw [← HO.out]; rfl)) ?_ ?_
        rotate_left
        · go_simp; (try with_reducible rfl)
        simp only [Act.put, List.setIfInBounds_toArray, List.set_cons_zero, List.set_cons_succ]
        refine Hn.take (v := ?_) (by first | rfl | (rw [← HO.out]; rfl)) ?_ ?_
        rotate_left
        · go_simp; (try with_reducible rfl)
        simp only [Act.put, List.setIfInBounds_toArray, List.set_cons_zero, List.set_cons_succ]
        refine Hn.take (v := ?_) (by first | rfl | (rw [← HO.out]; rfl)) ?_ ?_
        rotate_left
        · go_simp; (try with_reducible rfl)
        simp only [Act.put, List.setIfInBounds_toArray, List.set_cons_zero, List.set_cons_succ]
        iterate 5 (refine Hn.skip (by rw [← HO.out]; rfl) ?_; simp only [Act.put, List.setIfInBounds_toArray, List.set_cons_zero, List.set_cons_succ])
        refine Hn.take (v := ?_) (by first | rfl | (rw [← HO.out]; rfl)) ?_ ?_
        rotate_left
        · go_simp; (try with_reducible rfl)
        simp only [Act.put, List.setIfInBounds_toArray, List.set_cons_zero, List.set_cons_succ]
        refine Hn.take (v := ?_) (by first | rfl | (rw [← HO.out]; rfl)) ?_ ?_
        rotate_left
        · go_simp; (try with_reducible rfl)
        simp only [Act.put, List.setIfInBounds_toArray, List.set_cons_zero, List.set_cons_succ]
        iterate 5 (refine Hn.skip (by rw [← HO.out]; rfl) ?_; simp only [Act.put, List.setIfInBounds_toArray, List.set_cons_zero, List.set_cons_succ])
        refine Hn.take (v := ?_) (by first | rfl | (rw [← HO.out]; rfl)) ?_ ?_
        rotate_left
        · go_simp; (try with_reducible rfl)
        simp only [Act.put, List.setIfInBounds_toArray, List.set_cons_zero, List.set_cons_succ]
        refine Hn.take (v := ?_) (by first | rfl | (rw [← HO.out]; rfl)) ?_ ?_
        rotate_left
        · go_simp; (try with_reducible rfl)
        simp only [Act.put, List.setIfInBounds_toArray, List.set_cons_zero, List.set_cons_succ]
        iterate 39 (refine Hn.skip (by rw [← HO.out]; rfl) ?_; simp only [Act.put, List.setIfInBounds_toArray, List.set_cons_zero, List.set_cons_succ])
        refine Hn.take (v := ?_) (by first | rfl | (rw [← HO.out]; rfl)) ?_ ?_
        rotate_left
        · go_simp; (try with_reducible rfl)
        simp only [Act.put, List.setIfInBounds_toArray, List.set_cons_zero, List.set_cons_succ]
        refine Hn.take (v := ?_) (by first | rfl | (rw [← HO.out]; rfl)) ?_ ?_
        rotate_left
        · go_simp; (try with_reducible rfl)
        simp only [Act.put, List.setIfInBounds_toArray, List.set_cons_zero, List.set_cons_succ]
        refine Hn.take (v := ?_) (by first | rfl | (rw [← HO.out]; rfl)) ?_ ?_
        rotate_left
        · go_simp; (try with_reducible rfl)
        simp only [Act.put, List.setIfInBounds_toArray, List.set_cons_zero, List.set_cons_succ]
        clear HO
        refine Hn.done ?_
        go_wp2_with fail
        go_roundw
        case rel => exact ⟨k + 1, false, by omega, rfl, rfl, HBn, HT2, HL2, HX2⟩
        case measure => simp only [intOf]; omega
      rw [e2] at HBs
      cases e3 : (xr == trp)
      · skip
        rw [e3] at HBs
        have HBn : Hid (false = (m.windows.take (k + 1)).any (fit1 tat tcy trp tul st m.enable)) := by show _ = _; rw [HBs.out]; first | rfl | simp
        clear HBs
        refine wp_region_lit ?_
        generalize hO : (List.toArray (_ : List Oper)) = OPS
        have HO : Hid (_ = OPS) := hO
        clear hO
        refine Hn.take (v := ?_) (by first | rfl | (rw [← HO.out]; rfl)) ?_ ?_
        rotate_left
        · go_simp; (try with_reducible rfl)
        simp only [Act.put, List.setIfInBounds_toArray, List.set_cons_zero, List.set_cons_succ]
        refine Hn.take (v := ?_) (by first | rfl | (rw [← HO.out]; rfl)) ?_ ?_
        rotate_left
        · go_simp; (try with_reducible rfl)
        simp only [Act.put, List.setIfInBounds_toArray, List.set_cons_zero, List.set_cons_succ]
        refine Hn.take (v := ?_) (by first | rfl | (rw [← HO.out]; rfl)) ?_ ?_
        rotate_left
        · go_simp; (try with_reducible rfl)
        simp only [Act.put, List.setIfInBounds_toArray, List.set_cons_zero, List.set_cons_succ]
        refine Hn.take (v := ?_) (by first | rfl | (rw [← HO.out]; rfl)) ?_ ?_
        rotate_left
        · go_simp; (try with_reducible rfl)
        simp only [Act.put, List.setIfInBounds_toArray, List.set_cons_zero, List.set_cons_succ]
        refine Hn.take (v := ?_) (by first | rfl | (rw [← HO.out]; rfl)) ?_ ?_
        rotate_left
        · go_simp; (try with_reducible rfl)
        simp only [Act.put, List.setIfInBounds_toArray, List.set_cons_zero, List.set_cons_succ]
        refine Hn.take (v := ?_) (by first | rfl | (rw [← HO.out]; rfl)) ?_ ?_
        rotate_left
        · go_simp; (try with_reducible rfl)
        simp only [Act.put, List.setIfInBounds_toArray, List.set_cons_zero, List.set_cons_succ]
        refine Hn.take (v := ?_) (by first | rfl | (rw [← HO.out]; rfl)) ?_ ?_
        rotate_left
        · go_simp; (try with_reducible rfl)
        simp only [Act.put, List.setIfInBounds_toArray, List.set_cons_zero, List.set_cons_succ]
        refine Hn.take (v := ?_) (by first | rfl | (rw [← HO.out]; rfl)) ?_ ?_
        rotate_left
        · go_simp; (try with_reducible rfl)
        simp only [Act.put, List.setIfInBounds_toArray, List.set_cons_zero, List.set_cons_succ]
        refine Hn.take (v := ?_) (by first | rfl | (rw [← HO.out]; rfl)) ?_ ?_
        rotate_left
        · go_simp; (try with_reducible rfl)
        simp only [Act.put, List.setIfInBounds_toArray, List.set_cons_zero, List.set_cons_succ]
        refine Hn.take (v := ?_) (by first | rfl | (rw [← HO.out]; rfl)) ?_ ?_
        rotate_left
        · go_simp; (try with_reducible rfl)
        simp only [Act.put, List.setIfInBounds_toArray, List.set_cons_zero, List.set_cons_succ]
        refine Hn.take (v := ?_) (by first | rfl | (rw [← HO.out]; rfl)) ?_ ?_
        rotate_left
        · go_simp; (try with_reducible rfl)
        simp only [Act.put, List.setIfInBounds_toArray, List.set_cons_zero, List.set_cons_succ]
        refine Hn.take (v := ?_) (by first | rfl | (rw [← HO.out]; rfl)) ?_ ?_
        rotate_left
        · go_simp; (try with_reducible rfl)
        simp only [Act.put, List.setIfInBounds_toArray, List.set_cons_zero, List.set_cons_succ]
        refine Hn.take (v := ?_) (by first | rfl | (rw [← HO.out]; rfl)) ?_ ?_
        rotate_left
        · go_simp; (try with_reducible rfl)
        simp only [Act.put, List.setIfInBounds_toArray, List.set_cons_zero, List.set_cons_succ]
        refine Hn.take (v := ?_) (by first | rfl | (rw [← HO.out]; rfl)) ?_ ?_
        rotate_left
        · go_simp; (try with_reducible rfl)
        simp only [Act.put, List.setIfInBounds_toArray, List.set_cons_zero, List.set_cons_succ]
        refine Hn.take (v := ?_) (by first | rfl | (rw [← HO.out]; rfl)) ?_ ?_
        rotate_left
        · go_simp; (try with_reducible rfl)
        simp only [Act.put, List.setIfInBounds_toArray, List.set_cons_zero, List.set_cons_succ]
        refine Hn.take (v := ?_) (by first | rfl | (rw [← HO.out]; rfl)) ?_ ?_
        rotate_left
        · go_simp; (try with_reducible rfl)
        simp only [Act.put, List.setIfInBounds_toArray, List.set_cons_zero, List.set_cons_succ]
        refine Hn.take (v := ?_) (by first | rfl | (rw [← HO.out]; rfl)) ?_ ?_
        rotate_left
        · go_simp; (try with_reducible rfl)
        simp only [Act.put, List.setIfInBounds_toArray, List.set_cons_zero, List.set_cons_succ]
        refine Hn.take (v := ?_) (by first | rfl | (rw [← HO.out]; rfl)) ?_ ?_
        rotate_left
        · go_simp; (try with_reducible rfl)
        simp only [Act.put, List.setIfInBounds_toArray, List.set_cons_zero, List.set_cons_succ]
        refine Hn.take (v := ?_) (by first | rfl | (rw [← HO.out]; rfl)) ?_ ?_
        rotate_left
        · go_simp; (try with_reducible rfl)
        simp only [Act.put, List.setIfInBounds_toArray, List.set_cons_zero, List.set_cons_succ]
        refine Hn.take (v := ?_) (by first | rfl | (rw [← HO.out]; rfl)) ?_ ?_
        rotate_left
        · go_simp; (try with_reducible rfl)
        simp only [Act.put, List.setIfInBounds_toArray, List.set_cons_zero, List.set_cons_succ]
        refine Hn.take (v := ?_) (by first | rfl | (rw [← HO.out]; rfl)) ?_ ?_
        rotate_left
        · go_simp; (try with_reducible rfl)
        simp only [Act.put, List.setIfInBounds_toArray, List.set_cons_zero, List.set_cons_succ]
        refine Hn.take (v := ?_) (by first | rfl | (rw [← HO.out]; rfl)) ?_ ?_
        rotate_left
        · go_simp; (try with_reducible rfl)
        simp only [Act.put, List.setIfInBounds_toArray, List.set_cons_zero, List.set_cons_succ]
        iterate 5 (refine Hn.skip (by rw [← HO.out]; rfl) ?_; simp only [Act.put, List.setIfInBounds_toArray, List.set_cons_zero, List.set_cons_succ])
        refine Hn.take (v := ?_) (by first | rfl | (rw [← HO.out]; rfl)) ?_ ?_
        rotate_left
        · go_simp; (try with_reducible rfl)
        simp only [Act.put, List.setIfInBounds_toArray, List.set_cons_zero, List.set_cons_succ]
        refine Hn.take (v := ?_) (by first | rfl | (rw [← HO.out]; rfl)) ?_ ?_
        rotate_left
        · go_simp; (try with_reducible rfl)
        simp only [Act.put, List.setIfInBounds_toArray, List.set_cons_zero, List.set_cons_succ]
        iterate 39 (refine Hn.skip (by rw [← HO.out]; rfl) ?_; simp only [Act.put, List.setIfInBounds_toArray, List.set_cons_zero, List.set_cons_succ])
        refine Hn.take (v := ?_) (by first | rfl | (rw [← HO.out]; rfl)) ?_ ?_
        rotate_left
        · go_simp; (try with_reducible rfl)
        simp only [Act.put, List.setIfInBounds_toArray, List.set_cons_zero, List.set_cons_succ]
        refine Hn.take (v := ?_) (by first | rfl | (rw [← HO.out]; rfl)) ?_ ?_
        rotate_left
        · go_simp; (try with_reducible rfl)
        simp only [Act.put, List.setIfInBounds_toArray, List.set_cons_zero, List.set_cons_succ]
        refine Hn.take (v := ?_) (by first | rfl | (rw [← HO.out]; rfl)) ?_ ?_
        rotate_left
        · go_simp; (try with_reducible rfl)
        simp only [Act.put, List.setIfInBounds_toArray, List.set_cons_zero, List.set_cons_succ]
        clear HO
        refine Hn.done ?_
        go_wp2_with fail
        go_roundw
        case rel => exact ⟨k + 1, false, by omega, rfl, rfl, HBn, HT2, HL2, HX2⟩
        case measure => simp only [intOf]; omega
      rw [e3] at HBs
      cases e4 : decide (tul + st - m.enable ≤ xf)
      · skip
        rw [e4] at HBs
        have HBn : Hid (false = (m.windows.take (k + 1)).any (fit1 tat tcy trp tul st m.enable)) := by show _ = _; rw [HBs.out]; first | rfl | simp
        clear HBs
        refine wp_region_lit ?_
        generalize hO : (List.toArray (_ : List Oper)) = OPS
        have HO : Hid (_ = OPS) := hO
        clear hO
        refine Hn.take (v := ?_) (by first | rfl | (rw [← HO.out]; rfl)) ?_ ?_
        rotate_left
        · go_simp; (try with_reducible rfl)
        simp only [Act.put, List.setIfInBounds_toArray, List.set_cons_zero, List.set_cons_succ]
        refine Hn.take (v := ?_) (by first | rfl | (rw [← HO.out]; rfl)) ?_ ?_
        rotate_left
        · go_simp; (try with_reducible rfl)
        simp only [Act.put, List.setIfInBounds_toArray, List.set_cons_zero, List.set_cons_succ]
        refine Hn.take (v := ?_) (by first | rfl | (rw [← HO.out]; rfl)) ?_ ?_
        rotate_left
        · go_simp; (try with_reducible rfl)
        simp only [Act.put, List.setIfInBounds_toArray, List.set_cons_zero, List.set_cons_succ]
        refine Hn.take (v := ?_) (by first | rfl | (rw [← HO.out]; rfl)) ?_ ?_
        rotate_left
        · go_simp; (try with_reducible rfl)
        simp only [Act.put, List.setIfInBounds_toArray, List.set_cons_zero, List.set_cons_succ]
        refine Hn.take (v := ?_) (by first | rfl | (rw [← HO.out]; rfl)) ?_ ?_
        rotate_left
        · go_simp; (try with_reducible rfl)
        simp only [Act.put, List.setIfInBounds_toArray, List.set_cons_zero, List.set_cons_succ]
        refine Hn.take (v := ?_) (by first | rfl | (rw [← HO.out]; rfl)) ?_ ?_
        rotate_left
        · go_simp; (try with_reducible rfl)
        simp only [Act.put, List.setIfInBounds_toArray, List.set_cons_zero, List.set_cons_succ]
        refine Hn.take (v := ?_) (by first | rfl | (rw [← HO.out]; rfl)) ?_ ?_
        rotate_left
        · go_simp; (try with_reducible rfl)
        simp only [Act.put, List.setIfInBounds_toArray, List.set_cons_zero, List.set_cons_succ]
        refine Hn.take (v := ?_) (by first | rfl | (rw [← HO.out]; rfl)) ?_ ?_
        rotate_left
        · go_simp; (try with_reducible rfl)
        simp only [Act.put, List.setIfInBounds_toArray, List.set_cons_zero, List.set_cons_succ]
        refine Hn.take (v := ?_) (by first | rfl | (rw [← HO.out]; rfl)) ?_ ?_
        rotate_left
        · go_simp; (try with_reducible rfl)
        simp only [Act.put, List.setIfInBounds_toArray, List.set_cons_zero, List.set_cons_succ]
        refine Hn.take (v := ?_) (by first | rfl | (rw [← HO.out]; rfl)) ?_ ?_
        rotate_left
        · go_simp; (try with_reducible rfl)
        simp only [Act.put, List.setIfInBounds_toArray, List.set_cons_zero, List.set_cons_succ]
        refine Hn.take (v := ?_) (by first | rfl | (rw [← HO.out]; rfl)) ?_ ?_
        rotate_left
        · go_simp; (try with_reducible rfl)
        simp only [Act.put, List.setIfInBounds_toArray, List.set_cons_zero, List.set_cons_succ]
        refine Hn.take (v := ?_) (by first | rfl | (rw [← HO.out]; rfl)) ?_ ?_
        rotate_left
        · go_simp; (try with_reducible rfl)
        simp only [Act.put, List.setIfInBounds_toArray, List.set_cons_zero, List.set_cons_succ]
        refine Hn.take (v := ?_) (by first | rfl | (rw [← HO.out]; rfl)) ?_ ?_
        rotate_left
        · go_simp; (try with_reducible rfl)
        simp only [Act.put, List.setIfInBounds_toArray, List.set_cons_zero, List.set_cons_succ]
        refine Hn.take (v := ?_) (by first | rfl | (rw [← HO.out]; rfl)) ?_ ?_
        rotate_left
        · go_simp; (try with_reducible rfl)
        simp only [Act.put, List.setIfInBounds_toArray, List.set_cons_zero, List.set_cons_succ]
        refine Hn.take (v := ?_) (by first | rfl | (rw [← HO.out]; rfl)) ?_ ?_
        rotate_left
        · go_simp; (try with_reducible rfl)
        simp only [Act.put, List.setIfInBounds_toArray, List.set_cons_zero, List.set_cons_succ]
        refine Hn.take (v := ?_) (by first | rfl | (rw [← HO.out]; rfl)) ?_ ?_
        rotate_left
        · go_simp; (try with_reducible rfl)
        simp only [Act.put, List.setIfInBounds_toArray, List.set_cons_zero, List.set_cons_succ]
        refine Hn.take (v := ?_) (by first | rfl | (rw [← HO.out]; rfl)) ?_ ?_
        rotate_left
        · go_simp; (try with_reducible rfl)
        simp only [Act.put, List.setIfInBounds_toArray, List.set_cons_zero, List.set_cons_succ]
        refine Hn.take (v := ?_) (by first | rfl | (rw [← HO.out]; rfl)) ?_ ?_
        rotate_left
        · go_simp; (try with_reducible rfl)
        simp only [Act.put, List.setIfInBounds_toArray, List.set_cons_zero, List.set_cons_succ]
        refine Hn.take (v := ?_) (by first | rfl | (rw [← HO.out]; rfl)) ?_ ?_
        rotate_left
        · go_simp; (try with_reducible rfl)
        simp only [Act.put, List.setIfInBounds_toArray, List.set_cons_zero, List.set_cons_succ]
        refine Hn.take (v := ?_) (by first | rfl | (rw [← HO.out]; rfl)) ?_ ?_
        rotate_left
        · go_simp; (try with_reducible rfl)
        simp only [Act.put, List.setIfInBounds_toArray, List.set_cons_zero, List.set_cons_succ]
        refine Hn.take (v := ?_) (by first | rfl | (rw [← HO.out]; rfl)) ?_ ?_
        rotate_left
        · go_simp; (try with_reducible rfl)
        simp only [Act.put, List.setIfInBounds_toArray, List.set_cons_zero, List.set_cons_succ]
        refine Hn.take (v := ?_) (by first | rfl | (rw [← HO.out]; rfl)) ?_ ?_
        rotate_left
        · go_simp; (try with_reducible rfl)
        simp only [Act.put, List.setIfInBounds_toArray, List.set_cons_zero, List.set_cons_succ]
        refine Hn.take (v := ?_) (by first | rfl | (rw [← HO.out]; rfl)) ?_ ?_
        rotate_left
        · go_simp; (try with_reducible rfl)
        simp only [Act.put, List.setIfInBounds_toArray, List.set_cons_zero, List.set_cons_succ]
        refine Hn.take (v := ?_) (by first | rfl | (rw [← HO.out]; rfl)) ?_ ?_
        rotate_left
        · go_simp; (try with_reducible rfl)
        simp only [Act.put, List.setIfInBounds_toArray, List.set_cons_zero, List.set_cons_succ]
        refine Hn.take (v := ?_) (by first | rfl | (rw [← HO.out]; rfl)) ?_ ?_
        rotate_left
        · go_simp; (try with_reducible rfl)
        simp only [Act.put, List.setIfInBounds_toArray, List.set_cons_zero, List.set_cons_succ]
        refine Hn.take (v := ?_) (by first | rfl | (rw [← HO.out]; rfl)) ?_ ?_
        rotate_left
        · go_simp; (try with_reducible rfl)
        simp only [Act.put, List.setIfInBounds_toArray, List.set_cons_zero, List.set_cons_succ]
        refine Hn.take (v := ?_) (by first | rfl | (rw [← HO.out]; rfl)) ?_ ?_
        rotate_left
        · go_simp; (try with_reducible rfl)
        simp only [Act.put, List.setIfInBounds_toArray, List.set_cons_zero, List.set_cons_succ]
        refine Hn.take (v := ?_) (by first | rfl | (rw [← HO.out]; rfl)) ?_ ?_
        rotate_left
        · go_simp; (try with_reducible rfl)
        simp only [Act.put, List.setIfInBounds_toArray, List.set_cons_zero, List.set_cons_succ]
        refine Hn.take (v := ?_) (by first | rfl | (rw [← HO.out]; rfl)) ?_ ?_
        rotate_left
        · go_simp; (try with_reducible rfl)
        simp only [Act.put, List.setIfInBounds_toArray, List.set_cons_zero, List.set_cons_succ]
        refine Hn.take (v := ?_) (by first | rfl | (rw [← HO.out]; rfl)) ?_ ?_
        rotate_left
        · go_simp; (try with_reducible rfl)
        simp only [Act.put, List.setIfInBounds_toArray, List.set_cons_zero, List.set_cons_succ]
        refine Hn.take (v := ?_) (by first | rfl | (rw [← HO.out]; rfl)) ?_ ?_
        rotate_left
        · go_simp; (try with_reducible rfl)
        simp only [Act.put, List.setIfInBounds_toArray, List.set_cons_zero, List.set_cons_succ]
        refine Hn.take (v := ?_) (by first | rfl | (rw [← HO.out]; rfl)) ?_ ?_
        rotate_left
        · go_simp; (try with_reducible rfl)
        simp only [Act.put, List.setIfInBounds_toArray, List.set_cons_zero, List.set_cons_succ]
        refine Hn.take (v := ?_) (by first | rfl | (rw [← HO.out]; rfl)) ?_ ?_
        rotate_left
        · go_simp; (try with_reducible rfl)
        simp only [Act.put, List.setIfInBounds_toArray, List.set_cons_zero, List.set_cons_succ]
        refine Hn.take (v := ?_) (by first | rfl | (rw [← HO.out]; rfl)) ?_ ?_
        rotate_left
        · go_simp; (try with_reducible rfl)
        simp only [Act.put, List.setIfInBounds_toArray, List.set_cons_zero, List.set_cons_succ]
        refine Hn.take (v := ?_) (by first | rfl | (rw [← HO.out]; rfl)) ?_ ?_
        rotate_left
        · go_simp; (try with_reducible rfl)
        simp only [Act.put, List.setIfInBounds_toArray, List.set_cons_zero, List.set_cons_succ]
        refine Hn.take (v := ?_) (by first | rfl | (rw [← HO.out]; rfl)) ?_ ?_
        rotate_left
        · go_simp; (try with_reducible rfl)
        simp only [Act.put, List.setIfInBounds_toArray, List.set_cons_zero, List.set_cons_succ]
        refine Hn.take (v := ?_) (by first | rfl | (rw [← HO.out]; rfl)) ?_ ?_
        rotate_left
        · go_simp; (try with_reducible rfl)
        simp only [Act.put, List.setIfInBounds_toArray, List.set_cons_zero, List.set_cons_succ]
        refine Hn.take (v := ?_) (by first | rfl | (rw [← HO.out]; rfl)) ?_ ?_
        rotate_left
        · go_simp; (try with_reducible rfl)
        simp only [Act.put, List.setIfInBounds_toArray, List.set_cons_zero, List.set_cons_succ]
        refine Hn.take (v := ?_) (by first | rfl | (rw [← HO.out]; rfl)) ?_ ?_
        rotate_left
        · go_simp; (try with_reducible rfl)
        simp only [Act.put, List.setIfInBounds_toArray, List.set_cons_zero, List.set_cons_succ]
        refine Hn.take (v := ?_) (by first | rfl | (rw [← HO.out]; rfl)) ?_ ?_
        rotate_left
        · go_simp; (try with_reducible rfl)
        simp only [Act.put, List.setIfInBounds_toArray, List.set_cons_zero, List.set_cons_succ]
        refine Hn.take (v := ?_) (by first | rfl | (rw [← HO.out]; rfl)) ?_ ?_
        rotate_left
        · go_simp; (try with_reducible rfl)
        simp only [Act.put, List.setIfInBounds_toArray, List.set_cons_zero, List.set_cons_succ]
        refine Hn.take (v := ?_) (by first | rfl | (rw [← HO.out]; rfl)) ?_ ?_
        rotate_left
        · go_simp; (try with_reducible rfl)
        simp only [Act.put, List.setIfInBounds_toArray, List.set_cons_zero, List.set_cons_succ]
        refine Hn.take (v := ?_) (by first | rfl | (rw [← HO.out]; rfl)) ?_ ?_
        rotate_left
        · go_simp; (try with_reducible rfl)
        simp only [Act.put, List.setIfInBounds_toArray, List.set_cons_zero, List.set_cons_succ]
        refine Hn.take (v := ?_) (by first | rfl | (rw [← HO.out]; rfl)) ?_ ?_
        rotate_left
        · go_simp; (try with_reducible rfl)
        simp only [Act.put, List.setIfInBounds_toArray, List.set_cons_zero, List.set_cons_succ]
        refine Hn.take (v := ?_) (by first | rfl | (rw [← HO.out]; rfl)) ?_ ?_
        rotate_left
        · go_simp; (try with_reducible rfl)
        simp only [Act.put, List.setIfInBounds_toArray, List.set_cons_zero, List.set_cons_succ]
        refine Hn.take (v := ?_) (by first | rfl | (rw [← HO.out]; rfl)) ?_ ?_
        rotate_left
        · go_simp; (try with_reducible rfl)
        simp only [Act.put, List.setIfInBounds_toArray, List.set_cons_zero, List.set_cons_succ]
        refine Hn.take (v := ?_) (by first | rfl | (rw [← HO.out]; rfl)) ?_ ?_
        rotate_left
        · go_simp; (try with_reducible rfl)
        simp only [Act.put, List.setIfInBounds_toArray, List.set_cons_zero, List.set_cons_succ]
        refine Hn.take (v := ?_) (by first | rfl | (rw [← HO.out]; rfl)) ?_ ?_
        rotate_left
        · go_simp; (try with_reducible rfl)
        simp only [Act.put, List.setIfInBounds_toArray, List.set_cons_zero, List.set_cons_succ]
        refine Hn.take (v := ?_) (by first | rfl | (rw [← HO.out]; rfl)) ?_ ?_
        rotate_left
        · go_simp; (try with_reducible rfl)
        simp only [Act.put, List.setIfInBounds_toArray, List.set_cons_zero, List.set_cons_succ]
        refine Hn.take (v := ?_) (by first | rfl | (rw [← HO.out]; rfl)) ?_ ?_
        rotate_left
        · go_simp; (try with_reducible rfl)
        simp only [Act.put, List.setIfInBounds_toArray, List.set_cons_zero, List.set_cons_succ]
        refine Hn.take (v := ?_) (by first | rfl | (rw [← HO.out]; rfl)) ?_ ?_
        rotate_left
        · go_simp; (try with_reducible rfl)
        simp only [Act.put, List.setIfInBounds_toArray, List.set_cons_zero, List.set_cons_succ]
        refine Hn.take (v := ?_) (by first | rfl | (rw [← HO.out]; rfl)) ?_ ?_
        rotate_left
        · go_simp; (try with_reducible rfl)
        simp only [Act.put, List.setIfInBounds_toArray, List.set_cons_zero, List.set_cons_succ]
        refine Hn.take (v := ?_) (by first | rfl | (rw [← HO.out]; rfl)) ?_ ?_
        rotate_left
        · go_simp; (try with_reducible rfl)
        simp only [Act.put, List.setIfInBounds_toArray, List.set_cons_zero, List.set_cons_succ]
        refine Hn.take (v := ?_) (by first | rfl | (rw [← HO.out]; rfl)) ?_ ?_
        rotate_left
        · go_simp; (try with_reducible rfl)
        simp only [Act.put, List.setIfInBounds_toArray, List.set_cons_zero, List.set_cons_succ]
        refine Hn.take (v := ?_) (by first | rfl | (rw [← HO.out]; rfl)) ?_ ?_
        rotate_left
        · go_simp; (try with_reducible rfl)
        simp only [Act.put, List.setIfInBounds_toArray, List.set_cons_zero, List.set_cons_succ]
        refine Hn.take (v := ?_) (by first | rfl | (rw [← HO.out]; rfl)) ?_ ?_
        rotate_left
        · go_simp; (try with_reducible rfl)
        simp only [Act.put, List.setIfInBounds_toArray, List.set_cons_zero, List.set_cons_succ]
        refine Hn.take (v := ?_) (by first | rfl | (rw [← HO.out]; rfl)) ?_ ?_
        rotate_left
        · go_simp; (try with_reducible rfl)
        simp only [Act.put, List.setIfInBounds_toArray, List.set_cons_zero, List.set_cons_succ]
        refine Hn.take (v := ?_) (by first | rfl | (rw [← HO.out]; rfl)) ?_ ?_
        rotate_left
        · go_simp; (try with_reducible rfl)
        simp only [Act.put, List.setIfInBounds_toArray, List.set_cons_zero, List.set_cons_succ]
        refine Hn.take (v := ?_) (by first | rfl | (rw [← HO.out]; rfl)) ?_ ?_
        rotate_left
        · go_simp; (try with_reducible rfl)
        simp only [Act.put, List.setIfInBounds_toArray, List.set_cons_zero, List.set_cons_succ]
        iterate 7 (refine Hn.skip (by rw [← HO.out]; rfl) ?_; simp only [Act.put, List.setIfInBounds_toArray, List.set_cons_zero, List.set_cons_succ])
        refine Hn.take (v := ?_) (by first | rfl | (rw [← HO.out]; rfl)) ?_ ?_
        rotate_left
        · go_simp; (try with_reducible rfl)
        simp only [Act.put, List.setIfInBounds_toArray, List.set_cons_zero, List.set_cons_succ]
        refine Hn.take (v := ?_) (by first | rfl | (rw [← HO.out]; rfl)) ?_ ?_
        rotate_left
        · go_simp; (try with_reducible rfl)
        simp only [Act.put, List.setIfInBounds_toArray, List.set_cons_zero, List.set_cons_succ]
        refine Hn.take (v := ?_) (by first | rfl | (rw [← HO.out]; rfl)) ?_ ?_
        rotate_left
        · go_simp; (try with_reducible rfl)
        simp only [Act.put, List.setIfInBounds_toArray, List.set_cons_zero, List.set_cons_succ]
        refine Hn.take (v := ?_) (by first | rfl | (rw [← HO.out]; rfl)) ?_ ?_
        rotate_left
        · go_simp; (try with_reducible rfl)
        simp only [Act.put, List.setIfInBounds_toArray, List.set_cons_zero, List.set_cons_succ]
        refine Hn.take (v := ?_) (by first | rfl | (rw [← HO.out]; rfl)) ?_ ?_
        rotate_left
        · go_simp; (try with_reducible rfl)
        simp only [Act.put, List.setIfInBounds_toArray, List.set_cons_zero, List.set_cons_succ]
        clear HO
        refine Hn.done ?_
        go_wp2_with fail
        go_roundw
        case rel => exact ⟨k + 1, false, by omega, rfl, rfl, HBn, HT2, HL2, HX2⟩
        case measure => simp only [intOf]; omega
      rw [e4] at HBs
      have HBn : Hid (true = (m.windows.take (k + 1)).any (fit1 tat tcy trp tul st m.enable)) := by show _ = _; rw [HBs.out]; first | rfl | simp
      clear HBs
      refine wp_region_lit ?_
      generalize hO : (List.toArray (_ : List Oper)) = OPS
      have HO : Hid (_ = OPS) := hO
      clear hO
      refine Hn.take (v := ?_) (by first | rfl | (rw [← HO.out]; rfl)) ?_ ?_
      rotate_left
      · go_simp; (try with_reducible rfl)
      simp only [Act.put, List.setIfInBounds_toArray, List.set_cons_zero, List.set_cons_succ]
      refine Hn.take (v := ?_) (by first | rfl | (rw [← HO.out]; rfl)) ?_ ?_
      rotate_left
      · go_simp; (try with_reducible rfl)
      simp only [Act.put, List.setIfInBounds_toArray, List.set_cons_zero, List.set_cons_succ]
      refine Hn.take (v := ?_) (by first | rfl | (rw [← HO.out]; rfl)) ?_ ?_
      rotate_left
      · go_simp; (try with_reducible rfl)
      simp only [Act.put, List.setIfInBounds_toArray, List.set_cons_zero, List.set_cons_succ]
      refine Hn.take (v := ?_) (by first | rfl | (rw [← HO.out]; rfl)) ?_ ?_
      rotate_left
      · go_simp; (try with_reducible rfl)
      simp only [Act.put, List.setIfInBounds_toArray, List.set_cons_zero, List.set_cons_succ]
      refine Hn.take (v := ?_) (by first | rfl | (rw [← HO.out]; rfl)) ?_ ?_
      rotate_left
      · go_simp; (try with_reducible rfl)
      simp only [Act.put, List.setIfInBounds_toArray, List.set_cons_zero, List.set_cons_succ]
      refine Hn.take (v := ?_) (by first | rfl | (rw [← HO.out]; rfl)) ?_ ?_
      rotate_left
      · go_simp; (try with_reducible rfl)
      simp only [Act.put, List.setIfInBounds_toArray, List.set_cons_zero, List.set_cons_succ]
      refine Hn.take (v := ?_) (by first | rfl | (rw [← HO.out]; rfl)) ?_ ?_
      rotate_left
      · go_simp; (try with_reducible rfl)
      simp only [Act.put, List.setIfInBounds_toArray, List.set_cons_zero, List.set_cons_succ]
      refine Hn.take (v := ?_) (by first | rfl | (rw [← HO.out]; rfl)) ?_ ?_
      rotate_left
      · go_simp; (try with_reducible rfl)
      simp only [Act.put, List.setIfInBounds_toArray, List.set_cons_zero, List.set_cons_succ]
      refine Hn.take (v := ?_) (by first | rfl | (rw [← HO.out]; rfl)) ?_ ?_
      rotate_left
      · go_simp; (try with_reducible rfl)
      simp only [Act.put, List.setIfInBounds_toArray, List.set_cons_zero, List.set_cons_succ]
      refine Hn.take (v := ?_) (by first | rfl | (rw [← HO.out]; rfl)) ?_ ?_
      rotate_left
      · go_simp; (try with_reducible rfl)
      simp only [Act.put, List.setIfInBounds_toArray, List.set_cons_zero, List.set_cons_succ]
      refine Hn.take (v := ?_) (by first | rfl | (rw [← HO.out]; rfl)) ?_ ?_
      rotate_left
      · go_simp; (try with_reducible rfl)
      simp only [Act.put, List.setIfInBounds_toArray, List.set_cons_zero, List.set_cons_succ]
      refine Hn.take (v := ?_) (by first | rfl | (rw [← HO.out]; rfl)) ?_ ?_
      rotate_left
      · go_simp; (try with_reducible rfl)
      simp only [Act.put, List.setIfInBounds_toArray, List.set_cons_zero, List.set_cons_succ]
      refine Hn.take (v := ?_) (by first | rfl | (rw [← HO.out]; rfl)) ?_ ?_
      rotate_left
      · go_simp; (try with_reducible rfl)
      simp only [Act.put, List.setIfInBounds_toArray, List.set_cons_zero, List.set_cons_succ]
      refine Hn.take (v := ?_) (by first | rfl | (rw [← HO.out]; rfl)) ?_ ?_
      rotate_left
      · go_simp; (try with_reducible rfl)
      simp only [Act.put, List.setIfInBounds_toArray, List.set_cons_zero, List.set_cons_succ]
      refine Hn.take (v := ?_) (by first | rfl | (rw [← HO.out]; rfl)) ?_ ?_
      rotate_left
      · go_simp; (try with_reducible rfl)
      simp only [Act.put, List.setIfInBounds_toArray, List.set_cons_zero, List.set_cons_succ]
      refine Hn.take (v := ?_) (by first | rfl | (rw [← HO.out]; rfl)) ?_ ?_
      rotate_left
      · go_simp; (try with_reducible rfl)
      simp only [Act.put, List.setIfInBounds_toArray, List.set_cons_zero, List.set_cons_succ]
      refine Hn.take (v := ?_) (by first | rfl | (rw [← HO.out]; rfl)) ?_ ?_
      rotate_left
      · go_simp; (try with_reducible rfl)
      simp only [Act.put, List.setIfInBounds_toArray, List.set_cons_zero, List.set_cons_succ]
      refine Hn.take (v := ?_) (by first | rfl | (rw [← HO.out]; rfl)) ?_ ?_
      rotate_left
      · go_simp; (try with_reducible rfl)
      simp only [Act.put, List.setIfInBounds_toArray, List.set_cons_zero, List.set_cons_succ]
      refine Hn.take (v := ?_) (by first | rfl | (rw [← HO.out]; rfl)) ?_ ?_
      rotate_left
      · go_simp; (try with_reducible rfl)
      simp only [Act.put, List.setIfInBounds_toArray, List.set_cons_zero, List.set_cons_succ]
      refine Hn.take (v := ?_) (by first | rfl | (rw [← HO.out]; rfl)) ?_ ?_
      rotate_left
      · go_simp; (try with_reducible rfl)
      simp only [Act.put, List.setIfInBounds_toArray, List.set_cons_zero, List.set_cons_succ]
      refine Hn.take (v := ?_) (by first | rfl | (rw [← HO.out]; rfl)) ?_ ?_
      rotate_left
      · go_simp; (try with_reducible rfl)
      simp only [Act.put, List.setIfInBounds_toArray, List.set_cons_zero, List.set_cons_succ]
      refine Hn.take (v := ?_) (by first | rfl | (rw [← HO.out]; rfl)) ?_ ?_
      rotate_left
      · go_simp; (try with_reducible rfl)
      simp only [Act.put, List.setIfInBounds_toArray, List.set_cons_zero, List.set_cons_succ]
      refine Hn.take (v := ?_) (by first | rfl | (rw [← HO.out]; rfl)) ?_ ?_
      rotate_left
      · go_simp; (try with_reducible rfl)
      simp only [Act.put, List.setIfInBounds_toArray, List.set_cons_zero, List.set_cons_succ]
      refine Hn.take (v := ?_) (by first | rfl | (rw [← HO.out]; rfl)) ?_ ?_
      rotate_left
      · go_simp; (try with_reducible rfl)
      simp only [Act.put, List.setIfInBounds_toArray, List.set_cons_zero, List.set_cons_succ]
      refine Hn.take (v := ?_) (by first | rfl | (rw [← HO.out]; rfl)) ?_ ?_
      rotate_left
      · go_simp; (try with_reducible rfl)
      simp only [Act.put, List.setIfInBounds_toArray, List.set_cons_zero, List.set_cons_succ]
      refine Hn.take (v := ?_) (by first | rfl | (rw [← HO.out]; rfl)) ?_ ?_
      rotate_left
      · go_simp; (try with_reducible rfl)
      simp only [Act.put, List.setIfInBounds_toArray, List.set_cons_zero, List.set_cons_succ]
      refine Hn.take (v := ?_) (by first | rfl | (rw [← HO.out]; rfl)) ?_ ?_
      rotate_left
      · go_simp; (try with_reducible rfl)
      simp only [Act.put, List.setIfInBounds_toArray, List.set_cons_zero, List.set_cons_succ]
      refine Hn.take (v := ?_) (by first | rfl | (rw [← HO.out]; rfl)) ?_ ?_
      rotate_left
      · go_simp; (try with_reducible rfl)
      simp only [Act.put, List.setIfInBounds_toArray, List.set_cons_zero, List.set_cons_succ]
      refine Hn.take (v := ?_) (by first | rfl | (rw [← HO.out]; rfl)) ?_ ?_
      rotate_left
      · go_simp; (try with_reducible rfl)
      simp only [Act.put, List.setIfInBounds_toArray, List.set_cons_zero, List.set_cons_succ]
      refine Hn.take (v := ?_) (by first | rfl | (rw [← HO.out]; rfl)) ?_ ?_
      rotate_left
      · go_simp; (try with_reducible rfl)
      simp only [Act.put, List.setIfInBounds_toArray, List.set_cons_zero, List.set_cons_succ]
      refine Hn.take (v := ?_) (by first | rfl | (rw [← HO.out]; rfl)) ?_ ?_
      rotate_left
      · go_simp; (try with_reducible rfl)
      simp only [Act.put, List.setIfInBounds_toArray, List.set_cons_zero, List.set_cons_succ]
      refine Hn.take (v := ?_) (by first | rfl | (rw [← HO.out]; rfl)) ?_ ?_
      rotate_left
      · go_simp; (try with_reducible rfl)
      simp only [Act.put, List.setIfInBounds_toArray, List.set_cons_zero, List.set_cons_succ]
      refine Hn.take (v := ?_) (by first | rfl | (rw [← HO.out]; rfl)) ?_ ?_
      rotate_left
      · go_simp; (try with_reducible rfl)
      simp only [Act.put, List.setIfInBounds_toArray, List.set_cons_zero, List.set_cons_succ]
      refine Hn.take (v := ?_) (by first | rfl | (rw [← HO.out]; rfl)) ?_ ?_
      rotate_left
      · go_simp; (try with_reducible rfl)
      simp only [Act.put, List.setIfInBounds_toArray, List.set_cons_zero, List.set_cons_succ]
      refine Hn.take (v := ?_) (by first | rfl | (rw [← HO.out]; rfl)) ?_ ?_
      rotate_left
      · go_simp; (try with_reducible rfl)
      simp only [Act.put, List.setIfInBounds_toArray, List.set_cons_zero, List.set_cons_succ]
      refine Hn.take (v := ?_) (by first | rfl | (rw [← HO.out]; rfl)) ?_ ?_
      rotate_left
      · go_simp; (try with_reducible rfl)
      simp only [Act.put, List.setIfInBounds_toArray, List.set_cons_zero, List.set_cons_succ]
      refine Hn.take (v := ?_) (by first | rfl | (rw [← HO.out]; rfl)) ?_ ?_
      rotate_left
      · go_simp; (try with_reducible rfl)
      simp only [Act.put, List.setIfInBounds_toArray, List.set_cons_zero, List.set_cons_succ]
      refine Hn.take (v := ?_) (by first | rfl | (rw [← HO.out]; rfl)) ?_ ?_
      rotate_left
      · go_simp; (try with_reducible rfl)
      simp only [Act.put, List.setIfInBounds_toArray, List.set_cons_zero, List.set_cons_succ]
      refine Hn.take (v := ?_) (by first | rfl | (rw [← HO.out]; rfl)) ?_ ?_
      rotate_left
      · go_simp; (try with_reducible rfl)
      simp only [Act.put, List.setIfInBounds_toArray, List.set_cons_zero, List.set_cons_succ]
      refine Hn.take (v := ?_) (by first | rfl | (rw [← HO.out]; rfl)) ?_ ?_
      rotate_left
      · go_simp; (try with_reducible rfl)
      simp only [Act.put, List.setIfInBounds_toArray, List.set_cons_zero, List.set_cons_succ]
      refine Hn.take (v := ?_) (by first | rfl | (rw [← HO.out]; rfl)) ?_ ?_
      rotate_left
      · go_simp; (try with_reducible rfl)
      simp only [Act.put, List.setIfInBounds_toArray, List.set_cons_zero, List.set_cons_succ]
      refine Hn.take (v := ?_) (by first | rfl | (rw [← HO.out]; rfl)) ?_ ?_
      rotate_left
      · go_simp; (try with_reducible rfl)
      simp only [Act.put, List.setIfInBounds_toArray, List.set_cons_zero, List.set_cons_succ]
      refine Hn.take (v := ?_) (by first | rfl | (rw [← HO.out]; rfl)) ?_ ?_
      rotate_left
      · go_simp; (try with_reducible rfl)
      simp only [Act.put, List.setIfInBounds_toArray, List.set_cons_zero, List.set_cons_succ]
      refine Hn.take (v := ?_) (by first | rfl | (rw [← HO.out]; rfl)) ?_ ?_
      rotate_left
      · go_simp; (try with_reducible rfl)
      simp only [Act.put, List.setIfInBounds_toArray, List.set_cons_zero, List.set_cons_succ]
      refine Hn.take (v := ?_) (by first | rfl | (rw [← HO.out]; rfl)) ?_ ?_
      rotate_left
      · go_simp; (try with_reducible rfl)
      simp only [Act.put, List.setIfInBounds_toArray, List.set_cons_zero, List.set_cons_succ]
      refine Hn.take (v := ?_) (by first | rfl | (rw [← HO.out]; rfl)) ?_ ?_
      rotate_left
      · go_simp; (try with_reducible rfl)
      simp only [Act.put, List.setIfInBounds_toArray, List.set_cons_zero, List.set_cons_succ]
      refine Hn.take (v := ?_) (by first | rfl | (rw [← HO.out]; rfl)) ?_ ?_
      rotate_left
      · go_simp; (try with_reducible rfl)
      simp only [Act.put, List.setIfInBounds_toArray, List.set_cons_zero, List.set_cons_succ]
      refine Hn.take (v := ?_) (by first | rfl | (rw [← HO.out]; rfl)) ?_ ?_
      rotate_left
      · go_simp; (try with_reducible rfl)
      simp only [Act.put, List.setIfInBounds_toArray, List.set_cons_zero, List.set_cons_succ]
      refine Hn.take (v := ?_) (by first | rfl | (rw [← HO.out]; rfl)) ?_ ?_
      rotate_left
      · go_simp; (try with_reducible rfl)
      simp only [Act.put, List.setIfInBounds_toArray, List.set_cons_zero, List.set_cons_succ]
      refine Hn.take (v := ?_) (by first | rfl | (rw [← HO.out]; rfl)) ?_ ?_
      rotate_left
      · go_simp; (try with_reducible rfl)
      simp only [Act.put, List.setIfInBounds_toArray, List.set_cons_zero, List.set_cons_succ]
      refine Hn.take (v := ?_) (by first | rfl | (rw [← HO.out]; rfl)) ?_ ?_
      rotate_left
      · go_simp; (try with_reducible rfl)
      simp only [Act.put, List.setIfInBounds_toArray, List.set_cons_zero, List.set_cons_succ]
      refine Hn.take (v := ?_) (by first | rfl | (rw [← HO.out]; rfl)) ?_ ?_
      rotate_left
      · go_simp; (try with_reducible rfl)
      simp only [Act.put, List.setIfInBounds_toArray, List.set_cons_zero, List.set_cons_succ]
      refine Hn.take (v := ?_) (by first | rfl | (rw [← HO.out]; rfl)) ?_ ?_
      rotate_left
      · go_simp; (try with_reducible rfl)
      simp only [Act.put, List.setIfInBounds_toArray, List.set_cons_zero, List.set_cons_succ]
      refine Hn.take (v := ?_) (by first | rfl | (rw [← HO.out]; rfl)) ?_ ?_
      rotate_left
      · go_simp; (try with_reducible rfl)
      simp only [Act.put, List.setIfInBounds_toArray, List.set_cons_zero, List.set_cons_succ]
      refine Hn.take (v := ?_) (by first | rfl | (rw [← HO.out]; rfl)) ?_ ?_
      rotate_left
      · go_simp; (try with_reducible rfl)
      simp only [Act.put, List.setIfInBounds_toArray, List.set_cons_zero, List.set_cons_succ]
      iterate 12 (refine Hn.skip (by rw [← HO.out]; rfl) ?_; simp only [Act.put, List.setIfInBounds_toArray, List.set_cons_zero, List.set_cons_succ])
      refine Hn.take (v := ?_) (by first | rfl | (rw [← HO.out]; rfl)) ?_ ?_
      rotate_left
      · go_simp; (try with_reducible rfl)
      simp only [Act.put, List.setIfInBounds_toArray, List.set_cons_zero, List.set_cons_succ]
      refine Hn.take (v := ?_) (by first | rfl | (rw [← HO.out]; rfl)) ?_ ?_
      rotate_left
      · go_simp; (try with_reducible rfl)
      simp only [Act.put, List.setIfInBounds_toArray, List.set_cons_zero, List.set_cons_succ]
      refine Hn.take (v := ?_) (by first | rfl | (rw [← HO.out]; rfl)) ?_ ?_
      rotate_left
      · go_simp; (try with_reducible rfl)
      simp only [Act.put, List.setIfInBounds_toArray, List.set_cons_zero, List.set_cons_succ]
      refine Hn.take (v := ?_) (by first | rfl | (rw [← HO.out]; rfl)) ?_ ?_
      rotate_left
      · go_simp; (try with_reducible rfl)
      simp only [Act.put, List.setIfInBounds_toArray, List.set_cons_zero, List.set_cons_succ]
      clear HO
      refine Hn.done ?_
      go_wp2_with fail
      go_roundw
      case rel => exact ⟨k + 1, true, by omega, rfl, rfl, HBn, HT2, HL2, HX2⟩
      case measure => simp only [intOf]; omega
end Go.Proofs.YtlfhneiddfgoaaaDoor.planEnds
