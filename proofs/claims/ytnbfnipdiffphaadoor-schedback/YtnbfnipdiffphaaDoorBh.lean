/- Package matrix, over the landed code: Comes, Rank, Frame, Find, Is, Same. -/
import Derived.Test.YtnbfnipdiffphaaDoorBg
import Derived.Test.YtnbfnipdiffphaaDoorB1
import Derived.Deep.CutBlock
namespace Go.Proofs.YtnbfnipdiffphaaDoor
open Go.RowKit Go.WideShapes
set_option linter.unusedVariables false
set_option maxRecDepth 100000 in
set_option maxHeartbeats 4000000 in
theorem mk_comes (w : World) (cy rp now : Int) (h1 : (Lit.int .i64 cy).wf = true) (h2 : (Lit.int .i64 now).wf = true) : Calls Tryd.prog 36 #[.int .i64 cy, .int .i64 rp, .int .i64 now] w fun e w' => e = .returned (.bool (Mx.comes cy rp now)) ∧ w' = w := by
  obtain ⟨b1, b2⟩ := bounds_i64 h1
  obtain ⟨b3, b4⟩ := bounds_i64 h2
  clear h1 h2
  unfold Mx.comes
  by_cases c1 : 0 < rp
  · rw [decide_eq_true c1, Bool.true_and]
    by_cases c2 : 0 ≤ cy
    · rw [decide_eq_true c2, Bool.true_and]
      by_cases c3 : cy ≤ now
      · rw [decide_eq_true c3, Bool.true_and]
        have n0 : rp ≠ 0 := by omega
        go_enter Tryd.func36, Tryd.ntmps36
        go_wp2
        go_ret
        exact ⟨by simp, rfl⟩
      · rw [decide_eq_false c3, Bool.false_and]
        go_enter Tryd.func36, Tryd.ntmps36
        go_wp2
        go_ret
        exact ⟨rfl, rfl⟩
    · rw [decide_eq_false c2, Bool.false_and, Bool.false_and]
      go_enter Tryd.func36, Tryd.ntmps36
      go_wp2
      go_ret
      exact ⟨rfl, rfl⟩
  · rw [decide_eq_false c1, Bool.false_and, Bool.false_and, Bool.false_and]
    go_enter Tryd.func36, Tryd.ntmps36
    go_wp2
    go_ret
    exact ⟨rfl, rfl⟩
set_option maxRecDepth 100000 in
set_option maxHeartbeats 4000000 in
theorem mk_index (w : World) (l : List Int) (s : Option Addr) (c : Nat) (who : Int) (h : LI w s c l.length (l.flatMap mC1)) (hl : l.length ≤ 1000) : Calls Tryd.prog 77 #[.slice s l.length c, .int .i64 who] w fun e w' => e = .returned (.int .i64 (Mx.firstAt (fun x => x == who) l)) ∧ w' = w := by
  have HE1 : Hid (∀ (k : Nat) x, l[k]? = some x → (∀ (j : Nat) y, j < k → l[j]? = some y → (y == who) = false) → (x == who) = true → Mx.firstAt (fun x => x == who) l = (k : Int)) := fun k x hx hb hw => Mx.firstAt_some hx hb hw
  have HE2 : Hid ((∀ (j : Nat) y, l[j]? = some y → (y == who) = false) → Mx.firstAt (fun x => x == who) l = -1) := fun hb => Mx.firstAt_none hb
  have HG : Hid (∀ i, i < l.length → ∃ x, l[i]? = some x) := fun i hi => ⟨_, List.getElem?_eq_getElem hi⟩
  have HG2 : Hid (∀ (i : Nat) x, l[i]? = some x → i < l.length) := fun i x hi => (List.getElem?_eq_some_iff.1 hi).1
  have HS : Hid (∀ i x, l[i]? = some x → ∃ g o, s = some ⟨g, o, none⟩ ∧ w.cell? ⟨g, o + i, none⟩ = some (.int .i64 x)) := fun i x hx => by
    obtain ⟨g, o, hs, _⟩ := h.at (sz := 1) (fun _ => rfl) i x hx
    subst hs
    exact ⟨g, o, rfl, Bk.e1 h hx⟩
  clear h
  generalize Mx.firstAt (fun x => x == who) l = R at HE1 HE2 ⊢
  generalize l.length = n at HG HG2 hl ⊢
  go_enter Tryd.func77, Tryd.ntmps77
  go_wp2_with fail
  go_loopw [8] (fun i wr => ∃ k : Nat, k ≤ n ∧ i = .int .i64 k ∧ wr = w ∧ Hid (∀ (j : Nat) y, j < k → l[j]? = some y → (y == who) = false)) (fun i _ => n - (intOf i).toNat)
  case atStart => exact ⟨0, Nat.zero_le _, rfl, rfl, fun j y h => absurd h (Nat.not_lt_zero _)⟩
  case round =>
    obtain ⟨k, hk, rfl, rfl, HF⟩ := hrel
    by_cases hlt : k < n
    · obtain ⟨x, hx⟩ := HG.out k hlt
      obtain ⟨g, o, rfl, hc⟩ := HS.out k x hx
      clear HS HG HG2
      cases hw : (x == who)
      · have HF2 : Hid (∀ (j : Nat) y, j < k + 1 → l[j]? = some y → (y == who) = false) := Mx.upto_succ (p := fun y => y == who) hx HF.out hw
        have hw2 : (who == x) = false := beq_eq_false_iff_ne.2 (fun e => by rw [e] at hw; simp at hw)
        clear hx HE1 HE2 HF
        go_wp2
        first
          | exact ⟨⟨k + 1, by omega, by simp, (by first | rfl | trivial), HF2⟩, by simp [intOf]; omega⟩
          | (go_roundw; (case rel => exact ⟨k + 1, by omega, rfl, rfl, HF2⟩); (case measure => simp only [intOf]; omega))
      · have hR := HE1.out k x hx HF.out hw
        obtain rfl : x = who := beq_iff_eq.1 hw
        clear hx HE1 HE2 HF hw
        go_wp2
        go_ret
        exact ⟨by rw [hR]; rfl, rfl⟩
    · have hR := HE2.out (fun j y hy => HF.out j y (by have := HG2.out j y hy; omega) hy)
      clear HE1 HE2 HG HG2 HS HF
      go_wp2
      go_ret
      exact ⟨by rw [hR]; rfl, rfl⟩
set_option maxRecDepth 100000 in
set_option maxHeartbeats 4000000 in
theorem mk_rank (w : World) (m : Mx.M) (a : Ma) (who : Int) (hm : MIn w m a) (hS : Mx.Small m) : Calls Tryd.prog 49 #[mV m a, .int .i64 who] w fun e w' => e = .returned (.int .i64 (Mx.rank m who)) ∧ Below w.heap.size w w' := by
  have HX : Hid (Bx w (w.alloc (.cells (mCs m a) 27)) w.heap.size m a) := Bx.mk' hm
  have HI : Hid (∀ w', LI w' a.s1 a.c1 m.masters.length (m.masters.flatMap mC1) → Calls Tryd.prog 77 #[.slice a.s1 m.masters.length a.c1, .int .i64 who] w' fun e w'' => e = .returned (.int .i64 (Mx.rank m who)) ∧ w'' = w') := fun w' h => mk_index w' m.masters a.s1 a.c1 who h hS.a
  obtain ⟨_, _, _, _, _, _, _, _, x8, _, _⟩ := HX.out.row.mat
  show Calls _ _ #[.agg (mCs m a), _] _ _
  generalize mCs m a = cs at HX x8 ⊢
  clear hm hS
  go_enter Tryd.func49, Tryd.ntmps49
  go_wp2_with fail
  refine (HI.out _ HX.out.mem.l1).mono ?_
  rintro e w1 ⟨rfl, rfl⟩
  go_wp2
  go_ret
  exact ⟨rfl, HX.out.below⟩
set_option maxRecDepth 100000 in
set_option maxHeartbeats 4000000 in
theorem mk_headOf (w : World) (m : Mx.M) (a : Ma) : Calls Tryd.prog 53 #[.agg (mCs m a)] w fun e w' => e = .returned (.agg (Bk.hCs m)) ∧ Below w.heap.size w w' := by
  have HR : ∀ o, RowT 27 ((w.alloc (.cells (mCs m a) 27)).alloc o) w.heap.size (mCs m a) := fun o => (RowT.new 27 w (mCs m a)).on ((Below.refl _ _).alloc (Nat.le_refl _) _)
  have x0 := fun o => (HR o).mat.1
  have x1 := fun o => (HR o).mat.2.1
  have x2 := fun o => (HR o).mat.2.2.1
  have x3 := fun o => (HR o).mat.2.2.2.1
  have x4 := fun o => (HR o).mat.2.2.2.2.1
  have x5 := fun o => (HR o).mat.2.2.2.2.2.1
  have x6 := fun o => (HR o).mat.2.2.2.2.2.2.1
  have x7 := fun o => (HR o).mat.2.2.2.2.2.2.2.1
  clear HR
  generalize mCs m a = cs at *
  go_enter Tryd.func53, Tryd.ntmps53
  go_wp2
  exact bodyPost_ret (v := .agg (Bk.hCs m)) (by simp [results, Tryd.results53, go_sem, Bk.hCs]) rfl ⟨rfl, ((Below.refl _ _).alloc (Nat.le_refl _) _).alloc (by simp) _⟩
/-- A matrix in a block, its head in another. -/
structure Bk.Hb (W w : World) (q : Nat) (m : Mx.M) (a : Ma) : Prop where
  bx : Bx W w W.heap.size m a
  hd : RowT 78 w q (Bk.hCs m)
theorem Bk.Hb.on {W w w' : World} {q : Nat} {m : Mx.M} {a : Ma} (h : Bk.Hb W w q m a) (hb : Below w.heap.size w w') : Bk.Hb W w' q m a := ⟨h.bx.on hb, h.hd.on hb⟩
set_option maxRecDepth 100000 in
set_option maxHeartbeats 4000000 in
theorem mk_is (W : World) (hT : Tab W) (m : Mx.M) (a : Ma) (hm : MIn W m a) (hS : Mx.Small m) : Calls Tryd.prog 41 #[mV m a] W fun e w' => e = .returned (.bool (Mx.is m)) ∧ Below W.heap.size W w' := by
  have HX : Hid (Bx W (W.alloc (.cells (mCs m a) 27)) W.heap.size m a) := Bx.mk' hm
  have HQ : Hid (∀ w, Below W.heap.size W w → Tab w) := fun w hb => hT.below hb
  have C1 : Hid (∀ w, Calls Tryd.prog 53 #[.agg (mCs m a)] w fun e w' => e = .returned (.agg (Bk.hCs m)) ∧ Below w.heap.size w w') := fun w => mk_headOf w m a
  have C2 : Hid (∀ w b, Below W.heap.size W w → Bk.hd m = b → Calls Tryd.prog 54 #[.agg (Bk.hCs m)] w fun e w' => e = .returned (.bool b) ∧ Below w.heap.size w w') := fun w b hb e => by subst e; exact mk_head w (HQ.out w hb) m
  have C3 : Hid (∀ w b, Bx W w W.heap.size m a → (decide (m.masters.length ≤ 4) && m.masters.all (fun x => Mx.within x 0 99)) = b → Calls Tryd.prog 55 #[.slice a.s1 m.masters.length a.c1, .int .i64 4, .func (.func 56) #[] #[]] w fun e w' => e = .returned (.bool b) ∧ Below w.heap.size w w') := fun w b hb e => by subst e; exact mk_all1 w (HQ.out w hb.below) m.masters a.s1 a.c1 hb.mem.l1 hS.a
  have C4 : Hid (∀ w b, Bx W w W.heap.size m a → (decide (m.messages.length ≤ 12) && m.messages.all Mx.msgOk) = b → Calls Tryd.prog 57 #[.slice a.s2 m.messages.length a.c2, .int .i64 12, .func (.func 58) #[] #[]] w fun e w' => e = .returned (.bool b) ∧ Below w.heap.size w w') := fun w b hb e => by subst e; exact mk_all2 w (HQ.out w hb.below) m.messages a.s2 a.c2 hb.mem.l2 hS.b
  have C5 : Hid (∀ w b, Bx W w W.heap.size m a → (decide (m.windows.length ≤ 16) && m.windows.all (Bk.win m)) = b → Calls Tryd.prog 59 #[.slice a.s3 m.windows.length a.c3, .int .i64 16, .func (.func 60) #[.agg (Bk.hCs m)] #[]] w fun e w' => e = .returned (.bool b) ∧ Below w.heap.size w w') := fun w b hb e => by subst e; exact mk_all3 w (HQ.out w hb.below) m m.windows a.s3 a.c3 hb.mem.l3 hS.c
  rw [Bk.is_eq]
  clear hm hS hT HQ
  generalize m.masters.all (fun x => Mx.within x 0 99) = r1 at C3 ⊢
  generalize m.messages.all Mx.msgOk = r2 at C4 ⊢
  generalize m.windows.all (Bk.win m) = r3 at C5 ⊢
  show Calls _ _ #[.agg (mCs m a)] _ _
  generalize hR : (Bk.hd m && decide (0 < m.masters.length) && (decide (m.masters.length ≤ 4) && r1) && (decide (m.messages.length ≤ 12) && r2) && (decide (m.windows.length ≤ 16) && r3)) = R
  have HR : Hid ((Bk.hd m && decide (0 < m.masters.length) && (decide (m.masters.length ≤ 4) && r1) && (decide (m.messages.length ≤ 12) && r2) && (decide (m.windows.length ≤ 16) && r3)) = R) := hR
  clear hR
  have y := HX.out.row.mat
  obtain ⟨x0, x1, x2, x3, x4, x5, x6, x7, x8, x9, x10⟩ := y
  go_enter Tryd.func41, Tryd.ntmps41
  go_wp2_with fail
  refine (C1.out _).mono ?_
  rintro e w1 ⟨rfl, hb⟩
  clear x0 x1 x2 x3 x4 x5 x6 x7 x8 x9 x10
  replace HX : Hid (Bx W w1 W.heap.size m a) := HX.out.on hb
  clear hb C1
  have HH : Hid (Bk.Hb W (w1.alloc (.cells #[.int .i64 m.level, .int .i64 m.nodes, .int .i64 m.cycles, .int .i64 m.length, .int .i64 m.enable, .int .i64 m.unit, .int .i64 m.init, .int .u32 (m.ref : Int)] 78)) w1.heap.size m a) := ⟨HX.out.on ((Below.refl _ _).alloc (Nat.le_refl _) _), RowT.new _ _ _⟩
  clear HX
  dsimp only [Bk.hCs]
  go_upto_region 2 with fail
  generalize w1.alloc (.cells #[.int .i64 m.level, .int .i64 m.nodes, .int .i64 m.cycles, .int .i64 m.length, .int .i64 m.enable, .int .i64 m.unit, .int .i64 m.init, .int .u32 (m.ref : Int)] 78) = v1 at HH ⊢
  generalize w1.heap.size = q at HH ⊢
  obtain ⟨h0, h1, h2, h3, h4, h5, h6, h7⟩ := Bk.hCells HH.out.hd
  cases b1 : Bk.hd m
  · skip
    obtain rfl : R = false := by
      have h := HR.out
      rw [b1] at h
      exact h.symm
    clear HR
    go_wp2_with fail
    refine (C2.out _ _ HH.out.bx.below b1).mono ?_
    rintro e w2 ⟨rfl, hb⟩
    replace HH : Hid (Bk.Hb W w2 q m a) := HH.out.on hb
    clear hb h0 h1 h2 h3 h4 h5 h6 h7
    go_wp2
    go_ret
    exact ⟨rfl, HH.out.bx.below⟩
  · skip
    go_wp2_with fail
    refine (C2.out _ _ HH.out.bx.below b1).mono ?_
    rintro e w2 ⟨rfl, hb⟩
    replace HH : Hid (Bk.Hb W w2 q m a) := HH.out.on hb
    clear hb h0 h1 h2 h3 h4 h5 h6 h7
    obtain ⟨_, _, _, _, _, _, _, _, x8, _, _⟩ := HH.out.bx.row.mat
    by_cases g0 : 0 < m.masters.length
    · have g1 : (0 : Int) < (m.masters.length : Int) := by omega
      have b0 : decide (0 < m.masters.length) = true := decide_eq_true g0
      cases b2 : (decide (m.masters.length ≤ 4) && r1)
      · skip
        obtain rfl : R = false := by
          have h := HR.out
          rw [b1, b0, b2] at h
          exact h.symm
        clear HR
        go_wp2_with fail
        refine (C3.out _ _ HH.out.bx b2).mono ?_
        rintro e w3 ⟨rfl, hb⟩
        replace HH : Hid (Bk.Hb W w3 q m a) := HH.out.on hb
        clear hb x8
        go_wp2
        go_ret
        exact ⟨rfl, HH.out.bx.below⟩
      · skip
        go_wp2_with fail
        refine (C3.out _ _ HH.out.bx b2).mono ?_
        rintro e w3 ⟨rfl, hb⟩
        replace HH : Hid (Bk.Hb W w3 q m a) := HH.out.on hb
        clear hb x8
        obtain ⟨_, _, _, _, _, _, _, _, _, x9, _⟩ := HH.out.bx.row.mat
        cases b3 : (decide (m.messages.length ≤ 12) && r2)
        · skip
          obtain rfl : R = false := by
            have h := HR.out
            rw [b1, b0, b2, b3] at h
            exact h.symm
          clear HR
          go_wp2_with fail
          refine (C4.out _ _ HH.out.bx b3).mono ?_
          rintro e w4 ⟨rfl, hb⟩
          replace HH : Hid (Bk.Hb W w4 q m a) := HH.out.on hb
          clear hb x9
          go_wp2
          go_ret
          exact ⟨rfl, HH.out.bx.below⟩
        · skip
          go_wp2_with fail
          refine (C4.out _ _ HH.out.bx b3).mono ?_
          rintro e w4 ⟨rfl, hb⟩
          replace HH : Hid (Bk.Hb W w4 q m a) := HH.out.on hb
          clear hb x9
          obtain ⟨h0, h1, h2, h3, h4, h5, h6, h7⟩ := Bk.hCells HH.out.hd
          obtain ⟨_, _, _, _, _, _, _, _, _, _, x10⟩ := HH.out.bx.row.mat
          cases b4 : (decide (m.windows.length ≤ 16) && r3)
          · skip
            obtain rfl : R = false := by
              have h := HR.out
              rw [b1, b0, b2, b3, b4] at h
              exact h.symm
            clear HR
            go_wp2_with fail
            refine (C5.out _ _ HH.out.bx b4).mono ?_
            rintro e w5 ⟨rfl, hb⟩
            replace HH : Hid (Bk.Hb W w5 q m a) := HH.out.on hb
            clear hb x10 h0 h1 h2 h3 h4 h5 h6 h7
            go_wp2
            go_ret
            exact ⟨rfl, HH.out.bx.below⟩
          · skip
            obtain rfl : R = true := by
              have h := HR.out
              rw [b1, b0, b2, b3, b4] at h
              exact h.symm
            clear HR
            go_wp2_with fail
            refine (C5.out _ _ HH.out.bx b4).mono ?_
            rintro e w5 ⟨rfl, hb⟩
            replace HH : Hid (Bk.Hb W w5 q m a) := HH.out.on hb
            clear hb x10 h0 h1 h2 h3 h4 h5 h6 h7
            go_wp2
            go_ret
            exact ⟨rfl, HH.out.bx.below⟩
    · have g1 : ¬ ((0 : Int) < (m.masters.length : Int)) := by omega
      have b0 : decide (0 < m.masters.length) = false := decide_eq_false g0
      obtain rfl : R = false := by
        have h := HR.out
        rw [b1, b0] at h
        exact h.symm
      clear HR
      go_wp2
      go_ret
      exact ⟨rfl, HH.out.bx.below⟩
end Go.Proofs.YtnbfnipdiffphaaDoor
