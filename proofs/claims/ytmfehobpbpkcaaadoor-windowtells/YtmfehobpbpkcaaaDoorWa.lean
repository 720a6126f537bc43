/- Layer 16: what package window is said to do, whatever it is made of; law 16's own few, least; the document's At. -/
import Derived.Test.YtmfehobpbpkcaaaDoorWq
import Derived.Test.YtmfehobpbpkcaaaDoorL6
import Derived.Test.YtmfehobpbpkcaaaDoorL5
import Derived.Deep.CutBlock
import Derived.WalkSpells
namespace Go.Proofs.YtmfehobpbpkcaaaDoor
open Go.RowKit Go.WideShapes
set_option linter.unusedVariables false
structure WinSpec (Q : World → Prop) : Prop where
  at_ : ∀ (w : World) (m : Mx.M) (a : Ma) (c u : Int), Q w → MIn w m a → Mx.Small m → Mx.Wf m → (Lit.int .i64 c).wf = true → (Lit.int .i64 u).wf = true → Ob.Looks Tryd.prog 9 #[mV m a, .int .i64 c, .int .i64 u] w (.int .i64 (Wq.atW m c u))
  owner : ∀ (w : World) (m : Mx.M) (a : Ma) (c u : Int), Q w → MIn w m a → Mx.Small m → Mx.Wf m → (Lit.int .i64 c).wf = true → (Lit.int .i64 u).wf = true → Ob.Looks Tryd.prog 10 #[mV m a, .int .i64 c, .int .i64 u] w (.int .i64 (Wq.owner m c u))
  free : ∀ (w : World) (m : Mx.M) (a : Ma) (c : Int), Q w → MIn w m a → Mx.Small m → Mx.Wf m → (Lit.int .i64 c).wf = true → Ob.Looks Tryd.prog 13 #[mV m a, .int .i64 c] w (.int .i64 (Wq.free m c : Int))
  kinds : ∀ (w : World) (m : Mx.M) (a : Ma) (c : Int), Q w → MIn w m a → Mx.Small m → Mx.Wf m → (Lit.int .i64 c).wf = true → Ob.Looks Tryd.prog 12 #[mV m a, .int .i64 c] w (.string ⟨(Wq.kinds m c).toArray⟩)
set_option maxRecDepth 100000 in
set_option maxHeartbeats 1000000 in
theorem few16_any (w : World) (m : Mx.M) (a : Ma) : Ob.Looks Tryd.prog 7 #[mV m a] w (.bool (Mx.few m)) := by
  have HR : RowT 27 (w.alloc (.cells (mCs m a) 27)) w.heap.size (mCs m a) := RowT.new _ _ _
  obtain ⟨_, _, _, _, _, _, _, _, x8, x9, x10⟩ := HR.mat
  unfold Ob.Looks
  show Calls _ _ #[.agg (mCs m a)] _ _
  generalize mCs m a = cs at x8 x9 x10 ⊢
  clear HR
  unfold Mx.few
  generalize m.masters.length = n1 at x8 ⊢
  generalize m.messages.length = n2 at x9 ⊢
  generalize m.windows.length = n3 at x10 ⊢
  by_cases h1 : n1 ≤ 10
  · have i1 : (n1 : Int) ≤ 10 := by omega
    by_cases h2 : n2 ≤ 20
    · have i2 : (n2 : Int) ≤ 20 := by omega
      by_cases h3 : n3 ≤ 25
      · have i3 : (n3 : Int) ≤ 25 := by omega
        go_enter Tryd.func7, Tryd.ntmps7
        go_wp2
        go_ret
        exact ⟨by simp_all, (Below.refl _ _).alloc (Nat.le_refl _) _⟩
      · have i3 : ¬ ((n3 : Int) ≤ 25) := by omega
        go_enter Tryd.func7, Tryd.ntmps7
        go_wp2
        go_ret
        exact ⟨by simp_all, (Below.refl _ _).alloc (Nat.le_refl _) _⟩
    · have i2 : ¬ ((n2 : Int) ≤ 20) := by omega
      go_enter Tryd.func7, Tryd.ntmps7
      go_wp2
      go_ret
      exact ⟨by simp_all, (Below.refl _ _).alloc (Nat.le_refl _) _⟩
  · have i1 : ¬ ((n1 : Int) ≤ 10) := by omega
    go_enter Tryd.func7, Tryd.ntmps7
    go_wp2
    go_ret
    exact ⟨by simp_all, (Below.refl _ _).alloc (Nat.le_refl _) _⟩
def Mx.l16 : Mx.M := ⟨1, 2, 2, 100, 2, 64, 0, 8, [0], [⟨99, 1, false⟩], [⟨1, 40, 80, 1, 2, 0⟩]⟩
set_option maxRecDepth 100000 in
set_option maxHeartbeats 4000000 in
theorem least16_any (w : World) : Calls Tryd.prog 14 #[] w fun e w' => ∃ a, e = .returned (mV Mx.l16 a) ∧ Ow w.heap.size w' Mx.l16 a ∧ Below w.heap.size w w' := by
  go_enter Tryd.func14, Tryd.ntmps14
  go_wp2
  have hs : ∀ (w : World) o, (w.alloc o).heap.size = w.heap.size + 1 := fun w o => by simp
  refine bodyPost_ret (v := mV Mx.l16 ⟨some ⟨w.heap.size + 1, 0, none⟩, 1, some ⟨w.heap.size + 1 + 1, 0, none⟩, 1, some ⟨w.heap.size + 1 + 1 + 1, 0, none⟩, 1⟩) (by simp [results, Tryd.results14, go_sem, mV, mCs, Mx.l16]) rfl ⟨_, rfl, ⟨?_, ?_, ?_⟩, ((((Below.refl _ _).alloc (Nat.le_refl _) _).alloc (by simp) _).alloc (by simp; omega) _).alloc (by simp; omega) _⟩
  · have := fun o1 => Mb.ol_lit 3 1 w.heap.size (w.alloc o1) 1 [.int .i64 0] rfl (by simp) (by decide)
    simp only [hs] at this
    exact ((this _).on ((Below.refl _ _).alloc (Nat.le_refl _) _)).on ((Below.refl _ _).alloc (Nat.le_refl _) _)
  · have := fun o1 o2 => Mb.ol_lit 34 3 w.heap.size ((w.alloc o1).alloc o2) 1 [.int .u32 99, .int .i64 1, .bool false] rfl (by simp; omega) (by decide)
    simp only [hs] at this
    exact (this _ _).on ((Below.refl _ _).alloc (Nat.le_refl _) _)
  · have := fun o1 o2 o3 => Mb.ol_lit 32 6 w.heap.size (((w.alloc o1).alloc o2).alloc o3) 1 [.int .i64 1, .int .i64 40, .int .i64 80, .int .i64 1, .int .i64 2, .int .i64 0] rfl (by simp; omega) (by decide)
    simp only [hs] at this
    exact this _ _ _
theorem Wq.next {c u : Int} {l : List Mx.Win} {k : Nat} {x : Mx.Win} (h : ∀ (j : Nat) y, j < k → l[j]? = some y → Wq.has c u y = false) (hx : l[k]? = some x) (hh : Wq.has c u x = false) : ∀ (j : Nat) y, j < k + 1 → l[j]? = some y → Wq.has c u y = false := Mx.upto_succ (p := fun y => Wq.has c u y) hx h hh
set_option maxRecDepth 100000 in
set_option maxHeartbeats 4000000 in
theorem rat_any (w : World) (m : Mx.M) (a : Ma) (c u : Int) (hm : MIn w m a) (hS : Mx.Small m) (hwf : Mx.Wf m) (hc : (Lit.int .i64 c).wf = true) : Calls Tryd.prog 8 #[mV m a, .int .i64 c, .int .i64 u] w fun e w' => e = .returned (.int .i64 (Wq.atW m c u)) ∧ Below w.heap.size w w' := by
  have HX : Hid (Bx w (w.alloc (.cells (mCs m a) 27)) w.heap.size m a) := Bx.mk' hm
  obtain ⟨y0, y1, y2, y3, y4, y5, y6, y7, y8, y9, y10⟩ := HX.out.row.mat
  have HCk : Hid (Calls Tryd.prog 11 #[mV m a] (w.alloc (.cells (mCs m a) 27)) fun e w' => e = .returned (.tuple #[.int .i64 (Lq.check m).1, .int .i64 (Lq.check m).2]) ∧ Below (w.alloc (.cells (mCs m a) 27)).heap.size (w.alloc (.cells (mCs m a) 27)) w') := rcheck_any _ m a HX.out.mem hS hwf
  have HCm : Hid (∀ (w1 : World) (cy rp : Int) (b : Bool), (Lit.int .i64 cy).wf = true → Mx.comes cy rp c = b → Calls Tryd.prog 16 #[.int .i64 cy, .int .i64 rp, .int .i64 c] w1 fun e w' => e = .returned (.bool b) ∧ w' = w1) := fun w1 cy rp b h hb => hb ▸ rcomes_any w1 cy rp c h hc
  have HWf : Hid (∀ x ∈ m.windows, (Lit.int .i64 x.cycle).wf = true) := fun x hx => (hwf.windows x hx).2.2.2.1
  have hn3 : (m.windows.length : Int) ≤ 1000 := by have := hS.c; omega
  show Calls _ _ #[.agg (mCs m a), _, _] _ _
  obtain ⟨R, hR⟩ : ∃ R, Wq.atW m c u = R := ⟨_, rfl⟩
  rw [hR]
  have HRe : Hid (Wq.atW m c u = R) := hR
  obtain ⟨ck, hck⟩ : ∃ z, (Lq.check m).2 = z := ⟨_, rfl⟩
  have HCz : Hid ((Lq.check m).2 = ck) := hck
  rw [hck] at HCk
  clear hR hm hS hwf hc hck
  generalize (Lq.check m).1 = ck1 at HCk
  go_enter Tryd.func8, Tryd.ntmps8
  go_wp2_with fail
  refine HCk.out.mono ?_
  rintro e w1 ⟨rfl, hb⟩
  replace HX : Hid (Bx w w1 w.heap.size m a) := HX.out.on hb
  clear hb HCk y0 y1 y2 y3 y4 y5 y6 y7 y8 y9 y10
  by_cases hc0 : ck = 0
  rotate_left
  · have hcb : (ck != 0) = true := bne_iff_ne.2 hc0
    obtain rfl : R = -1 := by rw [← HRe.out, Wq.atW, if_neg (by rw [HCz.out]; exact hc0)]
    go_wp2
    go_ret
    exact ⟨rfl, HX.out.below⟩
  subst hc0
  have HE1 : Hid (∀ (k : Nat) x, m.windows[k]? = some x → (∀ (j : Nat) y, j < k → m.windows[j]? = some y → Wq.has c u y = false) → Wq.has c u x = true → R = (k : Int)) := fun k x hx hb hh => by rw [← HRe.out, Wq.atW, if_pos HCz.out]; exact Mx.firstAt_some (p := fun y => Wq.has c u y) hx hb hh
  have HE2 : Hid ((∀ (j : Nat) y, m.windows[j]? = some y → Wq.has c u y = false) → R = -1) := fun hb => by rw [← HRe.out, Wq.atW, if_pos HCz.out]; exact Mx.firstAt_none (p := fun y => Wq.has c u y) hb
  clear HRe HCz
  go_upto_block 0 with fail
  go_wp2_with fail
  go_loopw [9, 10] (fun vi _ wr => ∃ k : Nat, k ≤ m.windows.length ∧ vi = .int .i64 (k : Int) ∧ Hid (Bx w wr w.heap.size m a) ∧ Hid (∀ (j : Nat) y, j < k → m.windows[j]? = some y → Wq.has c u y = false)) (fun vi _ _ => m.windows.length - (intOf vi).toNat)
  case atStart => exact ⟨0, Nat.zero_le _, rfl, HX, fun j y h => absurd h (Nat.not_lt_zero _)⟩
  case round =>
    clear HX
    obtain ⟨k, hk, rfl, HX, HF⟩ := hrel
    by_cases hkl : k < m.windows.length
    · have ki : (k : Int) < (m.windows.length : Int) := by omega
      have kb : (k : Int) < 1000 := by omega
      obtain ⟨x, hx⟩ : ∃ x, m.windows[k]? = some x := ⟨_, List.getElem?_eq_getElem hkl⟩
      have HWx := HWf.out x (List.mem_of_getElem? hx)
      have HXe : Hid (m.windows[k]? = some x) := hx
      obtain ⟨gw, ow, hs, _, c0, c1, c2, c3, c4, c5⟩ := HX.out.mem.window hx
      have y10 := HX.out.row.mat.2.2.2.2.2.2.2.2.2.2
      rw [hs] at y10
      have HXn : Hid (Bx w (wr.alloc (.cells #[.int .i64 x.kind, .int .i64 x.start, .int .i64 x.fin, .int .i64 x.cycle, .int .i64 x.rep, .int .i64 x.msg] 32)) w.heap.size m a) := HX.out.al _
      have r1 : RowT 32 (wr.alloc (.cells #[.int .i64 x.kind, .int .i64 x.start, .int .i64 x.fin, .int .i64 x.cycle, .int .i64 x.rep, .int .i64 x.msg] 32)) wr.heap.size #[.int .i64 x.kind, .int .i64 x.start, .int .i64 x.fin, .int .i64 x.cycle, .int .i64 x.rep, .int .i64 x.msg] := RowT.new _ wr _
      have x1 := r1.c 1 _ rfl
      have x2 := r1.c 2 _ rfl
      have x3 := r1.c 3 _ rfl
      have x4 := r1.c 4 _ rfl
      clear hx hs HX r1
      cases hm1 : Mx.comes x.cycle x.rep c
      · have HF2 := Wq.next HF.out HXe.out (by unfold Wq.has; rw [hm1]; rfl)
        have HF3 : Hid (∀ (j : Nat) y, j < k + 1 → m.windows[j]? = some y → Wq.has c u y = false) := HF2
        clear HF2 HF HE1 HE2
        go_wp2_with fail
        refine (HCm.out _ _ _ _ HWx hm1).mono ?_
        rintro e w9 ⟨rfl, rfl⟩
        go_wp2_with fail
        go_roundw
        case rel => exact ⟨k + 1, by omega, rfl, HXn, HF3⟩
        case measure => simp only [intOf]; omega
      · by_cases h1 : x.start ≤ u
        · by_cases h2 : u < x.fin
          · obtain rfl : R = (k : Int) := HE1.out k x HXe.out HF.out (by unfold Wq.has; rw [hm1, decide_eq_true h1, decide_eq_true h2]; rfl)
            clear HF HE1 HE2
            go_wp2_with fail
            refine (HCm.out _ _ _ _ HWx hm1).mono ?_
            rintro e w9 ⟨rfl, rfl⟩
            go_wp2
            go_ret
            exact ⟨rfl, HXn.out.below⟩
          · have h2' : x.fin ≤ u := by omega
            have HF3 : Hid (∀ (j : Nat) y, j < k + 1 → m.windows[j]? = some y → Wq.has c u y = false) := Wq.next HF.out HXe.out (by unfold Wq.has; rw [decide_eq_false h2, Bool.and_false, Bool.and_false])
            clear HF HE1 HE2
            go_wp2_with fail
            refine (HCm.out _ _ _ _ HWx hm1).mono ?_
            rintro e w9 ⟨rfl, rfl⟩
            go_wp2_with fail
            go_roundw
            case rel => exact ⟨k + 1, by omega, rfl, HXn, HF3⟩
            case measure => simp only [intOf]; omega
        · have h1' : ¬ (x.start ≤ u) := h1
          have h1'' : u < x.start := by omega
          have HF3 : Hid (∀ (j : Nat) y, j < k + 1 → m.windows[j]? = some y → Wq.has c u y = false) := Wq.next HF.out HXe.out (by unfold Wq.has; rw [decide_eq_false h1, Bool.false_and, Bool.and_false])
          clear HF HE1 HE2
          go_wp2_with fail
          refine (HCm.out _ _ _ _ HWx hm1).mono ?_
          rintro e w9 ⟨rfl, rfl⟩
          go_wp2_with fail
          go_roundw
          case rel => exact ⟨k + 1, by omega, rfl, HXn, HF3⟩
          case measure => simp only [intOf]; omega
    · obtain rfl : R = -1 := HE2.out (fun j y hy => HF.out j y (by have := (List.getElem?_eq_some_iff.1 hy).1; omega) hy)
      have ki : ¬ ((k : Int) < (m.windows.length : Int)) := by omega
      have y10 := HX.out.row.mat.2.2.2.2.2.2.2.2.2.2
      clear HF HE1 HE2
      go_wp2
      go_ret
      exact ⟨rfl, HX.out.below⟩
end Go.Proofs.YtmfehobpbpkcaaaDoor
