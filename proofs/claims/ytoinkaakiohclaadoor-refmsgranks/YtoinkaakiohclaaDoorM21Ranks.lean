/- RefmsgRanks: of every two ranks, identifier and data of at most eight bytes (longer ones are let by): the lesser rank's beat wins; against messages the lesser identifier does; no condition but the row's own: the table of widths holds what the program's text lays. -/
import Derived.Test.YtoinkaakiohclaaDoorK21
import Derived.Test.YtoinkaakiohclaaDoorGc
import Derived.Test.YtoinkaakiohclaaDoorU1
import Derived.Deep.CutBlock
import Derived.ProofKit
import Derived.OpenShut
namespace Go.Proofs.YtoinkaakiohclaaDoor.refmsgRanks
open Go.ChangeShapes Go.WideShapes Go.ChangeAt Go.RowKit
set_option linter.unusedVariables false
def l21r : Mx.M := ⟨2, 2, 2, 200, 1, 16, 0, 16, [0, 1, 2, 3], [], []⟩
theorem is_l21r : Mx.is l21r = true := by decide
theorem k_std (a b : Nat) : Fm.sgn (Fm.key false a false) (Fm.key false b false) = Fm.sgn a b := by
  unfold Fm.key
  simp only [Bool.false_eq_true, if_false, Bm.bv]
  exact Fm.sgn_same (by omega) (by omega)
theorem cmp21 (n m : Nat) (d g : ByteArray) (hn : n < 2048) (hm : m < 2048) (hd : d.size ≤ 8) (hg : g.size ≤ 8) (w : World) (hT : Tab w) : Calls Tryd.prog 17 #[.agg #[.bool false, .int .u32 (n : Int), .bool false, .string d], .agg #[.bool false, .int .u32 (m : Int), .bool false, .string g]] w fun e w' => e = .returned (.int .i64 (Fm.sgn n m)) ∧ Below w.heap.size w w' := by
  have i0 : Fm.isF false n false d.data.toList = true := Fm.isF_mk (show n < 2048 from hn) (by simpa using hd) (fun h => by cases h)
  have i1 : Fm.isF false m false g.data.toList = true := Fm.isF_mk (show m < 2048 from hm) (by simpa using hg) (fun h => by cases h)
  have h := fCmp_any false n false d false m false g w hT (by omega) (by omega)
  unfold Fm.arb at h
  rw [if_pos i0, if_pos i1, Fm.cmp_key false false n m false false hn hm, k_std] at h
  exact h
theorem built (k c : Nat) (g : Nat) (dd : Bool) (hk : k < 4) (hc : c < 2) : Q21.build l21r (k : Int) (c : Int) g dd = some (16 + k, ⟨(Q21.data l21r (c : Int) g dd).toArray⟩) := by
  have hf : Q21.fits l21r (k : Int) (c : Int) = true := by
    unfold Q21.fits
    rw [is_l21r]
    simp only [Bool.true_and, Bool.and_eq_true, decide_eq_true_eq]
    refine ⟨by omega, ?_, by omega, ?_⟩
    · show (k : Int) < 4; omega
    · show (c : Int) < 2; omega
  unfold Q21.build
  rw [hf, Int.toNat_natCast]
  rfl
set_option maxRecDepth 100000 in
set_option maxHeartbeats 8000000 in
theorem walkA (S : RefSpec Tab) (ra rb id : Nat) (ha : ra < 256) (hb0 : rb < 256) (hid : id < 65536) (d : ByteArray) (W : World) (hT : Tab W) : Calls Tryd.prog 5 #[.int .u8 (ra : Int), .int .u8 (rb : Int), .int .u16 (id : Int), .string d] W fun e w' => e = .returned (.bool true) ∧ Below W.heap.size W w' := by
  have HT : Hid (∀ w, Below W.heap.size W w → Tab w) := fun w hb => hT.below hb
  have HBd : Hid (∀ (w : World) (p : Nat) (a : Ma) (k c g : Nat) (dd : Bool), Bx W w p l21r a → k < 4 → c < 2 → g < 65536 → Calls Tryd.prog 9 #[mV l21r a, .int .i64 (k : Int), .int .i64 (c : Int), .int .u16 (g : Int), .bool dd] w fun e w' => e = .returned (bV (some (16 + k, ⟨(Q21.data l21r (c : Int) g dd).toArray⟩))) ∧ Below w.heap.size w w') := fun w p a k c g dd h hk hc hg => by rw [← built k c g dd hk hc]; exact S.build w l21r a k c g dd (HT.out w h.below) h.mem (Mx.small_is is_l21r) (Mx.wf_is is_l21r) (WalkArith.wf_i64 ⟨by omega, by omega⟩) (WalkArith.wf_i64 ⟨by omega, by omega⟩) hg
  go_enter Tryd.func5, Tryd.ntmps5
  go_wp2_with fail
  refine (known21_any (fun _ _ h hb => h.below hb) S W hT).mono ?_
  rintro e w0 ⟨rfl, hb⟩
  have HB : Hid (Below W.heap.size W w0) := hb
  clear hb hT
  by_cases h8 : 8 < d.size
  · have h8i : (8 : Int) < (d.size : Int) := by omega
    clear HBd h8
    go_wp2
    go_ret
    exact ⟨rfl, HB.out⟩
  have h8i : ¬ ((8 : Int) < (d.size : Int)) := by omega
  have H8 : Hid (d.size ≤ 8) := (by omega : d.size ≤ 8)
  clear h8
  go_wp2_with fail
  refine (least21_any w0).mono ?_
  rintro e w1 ⟨a, rfl, hO, hb⟩
  have HBw : Below W.heap.size W w1 := HB.out.trans (hb.mono HB.out.size)
  have HBx : Below w1.heap.size w1 ((w1.alloc (.cells #[.int .i64 Mx.l21.level, .int .i64 Mx.l21.nodes, .int .i64 Mx.l21.cycles, .int .i64 Mx.l21.length, .int .i64 Mx.l21.enable, .int .i64 Mx.l21.unit, .int .i64 Mx.l21.init, .int .u32 (Mx.l21.ref : Int), .slice (some ⟨w1.heap.size + 1, 0, none⟩) 4 4, .slice a.s2 Mx.l21.messages.length a.c2, .slice a.s3 Mx.l21.windows.length a.c3] 27)).alloc (.cells #[.int .i64 0, .int .i64 1, .int .i64 2, .int .i64 3] 3)) := ((Below.refl _ _).alloc (Nat.le_refl _) _).alloc (by simp) _
  have HX : Hid (Bx W ((w1.alloc (.cells #[.int .i64 Mx.l21.level, .int .i64 Mx.l21.nodes, .int .i64 Mx.l21.cycles, .int .i64 Mx.l21.length, .int .i64 Mx.l21.enable, .int .i64 Mx.l21.unit, .int .i64 Mx.l21.init, .int .u32 (Mx.l21.ref : Int), .slice (some ⟨w1.heap.size + 1, 0, none⟩) 4 4, .slice a.s2 Mx.l21.messages.length a.c2, .slice a.s3 Mx.l21.windows.length a.c3] 27)).alloc (.cells #[.int .i64 0, .int .i64 1, .int .i64 2, .int .i64 3] 3)) w1.heap.size l21r ⟨some ⟨w1.heap.size + 1, 0, none⟩, 4, a.s2, a.c2, a.s3, a.c3⟩) := by
    refine ⟨(RowT.new 27 w1 (mCs l21r ⟨some ⟨w1.heap.size + 1, 0, none⟩, 4, a.s2, a.c2, a.s3, a.c3⟩)).on ((Below.refl _ _).alloc (Nat.le_refl _) _), ?_, HBw.trans (HBx.mono HBw.size)⟩
    have hl := (Mb.ol_lit 3 1 (w1.alloc (.cells #[.int .i64 Mx.l21.level, .int .i64 Mx.l21.nodes, .int .i64 Mx.l21.cycles, .int .i64 Mx.l21.length, .int .i64 Mx.l21.enable, .int .i64 Mx.l21.unit, .int .i64 Mx.l21.init, .int .u32 (Mx.l21.ref : Int), .slice (some ⟨w1.heap.size + 1, 0, none⟩) 4 4, .slice a.s2 Mx.l21.messages.length a.c2, .slice a.s3 Mx.l21.windows.length a.c3] 27)).heap.size (w1.alloc (.cells #[.int .i64 Mx.l21.level, .int .i64 Mx.l21.nodes, .int .i64 Mx.l21.cycles, .int .i64 Mx.l21.length, .int .i64 Mx.l21.enable, .int .i64 Mx.l21.unit, .int .i64 Mx.l21.init, .int .u32 (Mx.l21.ref : Int), .slice (some ⟨w1.heap.size + 1, 0, none⟩) 4 4, .slice a.s2 Mx.l21.messages.length a.c2, .slice a.s3 Mx.l21.windows.length a.c3] 27)) 4 [.int .i64 0, .int .i64 1, .int .i64 2, .int .i64 3] rfl (Nat.le_refl _) (by decide)).sl.li
    obtain ⟨q1, q2, q3⟩ := hO
    simp only [World.size_alloc] at hl
    exact ⟨hl, (show LI w1 a.s2 a.c2 _ _ from q2).on HBx, (show LI w1 a.s3 a.c3 _ _ from q3).on HBx⟩
  clear hO hb HBw HB HBx
  dsimp only [mV, mCs]
  go_upto_region 7 with fail
  clear h8i
  generalize ((w1.alloc (.cells #[.int .i64 Mx.l21.level, .int .i64 Mx.l21.nodes, .int .i64 Mx.l21.cycles, .int .i64 Mx.l21.length, .int .i64 Mx.l21.enable, .int .i64 Mx.l21.unit, .int .i64 Mx.l21.init, .int .u32 (Mx.l21.ref : Int), .slice (some ⟨w1.heap.size + 1, 0, none⟩) 4 4, .slice a.s2 Mx.l21.messages.length a.c2, .slice a.s3 Mx.l21.windows.length a.c3] 27)).alloc (.cells #[.int .i64 0, .int .i64 1, .int .i64 2, .int .i64 3] 3)) = v6 at HX ⊢
  obtain ⟨b, hbe⟩ : ∃ b : Ma, ⟨some ⟨w1.heap.size + 1, 0, none⟩, 4, a.s2, a.c2, a.s3, a.c3⟩ = b := ⟨_, rfl⟩
  rw [hbe] at HX
  clear hbe
  generalize w1.heap.size = p at HX ⊢
  obtain ⟨k, hk⟩ : ∃ k, ra % 4 = k := ⟨_, rfl⟩
  obtain ⟨j, hj⟩ : ∃ j, rb % 4 = j := ⟨_, rfl⟩
  obtain ⟨I, hI⟩ : ∃ I, id % 2048 = I := ⟨_, rfl⟩
  have hk4 : k < 4 := by omega
  have hj4 : j < 4 := by omega
  have HI2 : Hid (I < 2048) := (by omega : I < 2048)
  have ek : (ra : Int) % 4 = (k : Int) := by omega
  have ej : (rb : Int) % 4 = (j : Int) := by omega
  have eI : (id : Int) % 2048 = (I : Int) := by omega
  have tk : (ra : Int).tmod 4 = (k : Int) := by rw [Int.tmod_eq_emod_of_nonneg (by omega)]; exact ek
  have tj : (rb : Int).tmod 4 = (j : Int) := by rw [Int.tmod_eq_emod_of_nonneg (by omega)]; exact ej
  have tI : (id : Int).tmod 2048 = (I : Int) := by rw [Int.tmod_eq_emod_of_nonneg (by omega)]; exact eI
  obtain ⟨N, hN⟩ : ∃ N, 16 + k = N := ⟨_, rfl⟩
  obtain ⟨M, hM⟩ : ∃ M, 16 + j = M := ⟨_, rfl⟩
  have HP1 : Hid (∀ w, Bx W w p l21r b → Calls Tryd.prog 9 #[mV l21r b, .int .i64 (k : Int), .int .i64 0, .int .u16 5, .bool false] w fun e w' => e = .returned (.tuple #[.agg #[.bool false, .int .u32 (N : Int), .bool false, .string ⟨#[0, 0, 0, 5]⟩], .bool true]) ∧ Below w.heap.size w w') := fun w h => by have := HBd.out w p b k 0 5 false h hk4 (by decide) (by decide); rw [hN] at this; exact this
  have HP2 : Hid (∀ w, Bx W w p l21r b → Calls Tryd.prog 9 #[mV l21r b, .int .i64 (j : Int), .int .i64 1, .int .u16 9, .bool true] w fun e w' => e = .returned (.tuple #[.agg #[.bool false, .int .u32 (M : Int), .bool false, .string ⟨#[1, 1, 0, 9]⟩], .bool true]) ∧ Below w.heap.size w w') := fun w h => by have := HBd.out w p b j 1 9 true h hj4 (by decide) (by decide); rw [hM] at this; exact this
  have HC1 : Hid (∀ w, Below W.heap.size W w → Calls Tryd.prog 17 #[.agg #[.bool false, .int .u32 (N : Int), .bool false, .string ⟨#[0, 0, 0, 5]⟩], .agg #[.bool false, .int .u32 (I : Int), .bool false, .string d]] w fun e w' => e = .returned (.int .i64 (Fm.sgn N I)) ∧ Below w.heap.size w w') := fun w h => cmp21 N I _ d (by omega) HI2.out (by decide) H8.out w (HT.out w h)
  have HC2 : Hid (∀ w, Below W.heap.size W w → Calls Tryd.prog 17 #[.agg #[.bool false, .int .u32 (N : Int), .bool false, .string ⟨#[0, 0, 0, 5]⟩], .agg #[.bool false, .int .u32 (M : Int), .bool false, .string ⟨#[1, 1, 0, 9]⟩]] w fun e w' => e = .returned (.int .i64 (Fm.sgn N M)) ∧ Below w.heap.size w w') := fun w h => cmp21 N M _ _ (by omega) (by omega) (by decide) (by decide) w (HT.out w h)
  have HNM : Hid (N = 16 + k ∧ M = 16 + j) := ⟨hN.symm, hM.symm⟩
  have hkb : (k : Int) < 4 := by omega
  have hjb : (j : Int) < 4 := by omega
  have hIb : (I : Int) < 2048 := by omega
  clear HBd hk hj hI hN hM hk4 hj4
  obtain ⟨y0, y1, y2, y3, y4, y5, y6, y7, y8, y9, y10⟩ := HX.out.row.mat
  go_wp2_with fail
  refine (HP1.out _ HX.out).mono ?_
  rintro e w7 ⟨rfl, hb⟩
  clear y0 y1 y2 y3 y4 y5 y6 y7 y8 y9 y10 HP1
  replace HX : Hid (Bx W (w7.alloc (.cells #[.bool false, .int .u32 (N : Int), .bool false, .string ⟨#[0, 0, 0, 5]⟩] 30)) p l21r b) := (HX.out.on hb).al _
  have HR1 : Hid (RowT 30 (w7.alloc (.cells #[.bool false, .int .u32 (N : Int), .bool false, .string ⟨#[0, 0, 0, 5]⟩] 30)) w7.heap.size #[.bool false, .int .u32 (N : Int), .bool false, .string ⟨#[0, 0, 0, 5]⟩]) := RowT.new _ _ _
  clear hb
  go_upto_region 8 with fail
  generalize w7.alloc (.cells #[.bool false, .int .u32 (N : Int), .bool false, .string ⟨#[0, 0, 0, 5]⟩] 30) = v7 at HX HR1 ⊢
  generalize w7.heap.size = g1 at HR1 ⊢
  obtain ⟨y0, y1, y2, y3, y4, y5, y6, y7, y8, y9, y10⟩ := HX.out.row.mat
  go_wp2_with fail
  refine (HP2.out _ HX.out).mono ?_
  rintro e w8 ⟨rfl, hb⟩
  clear y0 y1 y2 y3 y4 y5 y6 y7 y8 y9 y10 HP2
  replace HX : Hid (Bx W (w8.alloc (.cells #[.bool false, .int .u32 (M : Int), .bool false, .string ⟨#[1, 1, 0, 9]⟩] 30)) p l21r b) := (HX.out.on hb).al _
  replace HR1 : Hid (RowT 30 (w8.alloc (.cells #[.bool false, .int .u32 (M : Int), .bool false, .string ⟨#[1, 1, 0, 9]⟩] 30)) g1 #[.bool false, .int .u32 (N : Int), .bool false, .string ⟨#[0, 0, 0, 5]⟩]) := (RowT.on HR1.out hb).on ((Below.refl _ _).alloc (Nat.le_refl _) _)
  have HR2 : Hid (RowT 30 (w8.alloc (.cells #[.bool false, .int .u32 (M : Int), .bool false, .string ⟨#[1, 1, 0, 9]⟩] 30)) w8.heap.size #[.bool false, .int .u32 (M : Int), .bool false, .string ⟨#[1, 1, 0, 9]⟩]) := RowT.new _ _ _
  clear hb
  go_upto_region 9 with fail
  generalize w8.alloc (.cells #[.bool false, .int .u32 (M : Int), .bool false, .string ⟨#[1, 1, 0, 9]⟩] 30) = v8 at HX HR1 HR2 ⊢
  generalize w8.heap.size = g2 at HR2 ⊢
  go_upto_region 10 with fail
  have want : ∀ {x y : Nat}, (x < y ∧ Fm.sgn x y = -1) ∨ (¬ x < y ∧ y < x ∧ Fm.sgn x y = 1) ∨ (x = y ∧ Fm.sgn x y = 0) := by
    intro x y
    by_cases h : x < y
    · exact Or.inl ⟨h, Fm.sgn_lt h⟩
    · by_cases h2 : y < x
      · exact Or.inr (Or.inl ⟨h, h2, Fm.sgn_gt h2⟩)
      · obtain rfl : x = y := by omega
        exact Or.inr (Or.inr ⟨rfl, Fm.sgn_eq x⟩)
  have w1' := want (x := N) (y := M)
  have w2' := want (x := N) (y := I)
  clear want
  generalize Fm.sgn N M = K at HC2 w1'
  generalize Fm.sgn N I = K1 at HC1 w2'
  have HW2 : Hid ((N < I ∧ K1 = -1) ∨ (¬ N < I ∧ I < N ∧ K1 = 1) ∨ (N = I ∧ K1 = 0)) := w2'
  clear w2'
  rcases w1' with ⟨h1, rfl⟩ | ⟨h1, h2, rfl⟩ | ⟨h1, rfl⟩
  · have c1 : (k : Int) < (j : Int) := by have := HNM.out; omega
    have c2 : ¬ ((j : Int) < (k : Int)) := by omega
    clear h1
    go_upto_region 14 with fail
    clear c1 c2 ek ej tk tj hkb hjb
    go_upto_region 15 with fail
    clear eI tI hIb
    replace HX : Hid (Bx W (v8.alloc (.cells #[.bool false, .int .u32 (I : Int), .bool false, .string d] 30)) p l21r b) := HX.out.al _
    replace HR1 : Hid (RowT 30 (v8.alloc (.cells #[.bool false, .int .u32 (I : Int), .bool false, .string d] 30)) g1 #[.bool false, .int .u32 (N : Int), .bool false, .string ⟨#[0, 0, 0, 5]⟩]) := (RowT.on HR1.out ((Below.refl _ _).alloc (Nat.le_refl _) _))
    replace HR2 : Hid (RowT 30 (v8.alloc (.cells #[.bool false, .int .u32 (I : Int), .bool false, .string d] 30)) g2 #[.bool false, .int .u32 (M : Int), .bool false, .string ⟨#[1, 1, 0, 9]⟩]) := (RowT.on HR2.out ((Below.refl _ _).alloc (Nat.le_refl _) _))
    have HR3 : Hid (RowT 30 (v8.alloc (.cells #[.bool false, .int .u32 (I : Int), .bool false, .string d] 30)) v8.heap.size #[.bool false, .int .u32 (I : Int), .bool false, .string d]) := RowT.new _ _ _
    generalize v8.alloc (.cells #[.bool false, .int .u32 (I : Int), .bool false, .string d] 30) = v9 at HX HR1 HR2 HR3 ⊢
    generalize v8.heap.size = g3 at HR3 ⊢
    have a0 := HR1.out.c 0 _ rfl
    have a1 := HR1.out.c 1 _ rfl
    have a2 := HR1.out.c 2 _ rfl
    have a3 := HR1.out.c 3 _ rfl
    have c0 := HR3.out.c 0 _ rfl
    have c1 := HR3.out.c 1 _ rfl
    have c2 := HR3.out.c 2 _ rfl
    have c3 := HR3.out.c 3 _ rfl
    go_wp2_with fail
    refine (HC1.out _ HX.out.below).mono ?_
    rintro e wa ⟨rfl, hb⟩
    clear a0 a1 a2 a3 c0 c1 c2 c3 HC1
    replace HX : Hid (Bx W wa p l21r b) := HX.out.on hb
    replace HR1 : Hid (RowT 30 (wa) g1 #[.bool false, .int .u32 (N : Int), .bool false, .string ⟨#[0, 0, 0, 5]⟩]) := (RowT.on HR1.out hb)
    replace HR2 : Hid (RowT 30 (wa) g2 #[.bool false, .int .u32 (M : Int), .bool false, .string ⟨#[1, 1, 0, 9]⟩]) := (RowT.on HR2.out hb)
    replace HR3 : Hid (RowT 30 (wa) g3 #[.bool false, .int .u32 (I : Int), .bool false, .string d]) := (RowT.on HR3.out hb)
    clear hb
    rcases HW2.out with ⟨e1, rfl⟩ | ⟨e1, e2, rfl⟩ | ⟨e1, rfl⟩
    · have d1 : ¬ ((I : Int) = (N : Int)) := by omega
      have d2 : (N : Int) < (I : Int) := by omega
      clear HW2
      have a0 := HR1.out.c 0 _ rfl
      have a1 := HR1.out.c 1 _ rfl
      have a2 := HR1.out.c 2 _ rfl
      have a3 := HR1.out.c 3 _ rfl
      have b0 := HR2.out.c 0 _ rfl
      have b1 := HR2.out.c 1 _ rfl
      have b2 := HR2.out.c 2 _ rfl
      have b3 := HR2.out.c 3 _ rfl
      go_wp2_with fail
      refine (HC2.out _ HX.out.below).mono ?_
      rintro e wb ⟨rfl, hb⟩
      clear a0 a1 a2 a3 b0 b1 b2 b3 HC2
      replace HX : Hid (Bx W wb p l21r b) := HX.out.on hb
      have a1 := (RowT.on HR1.out hb).c 1 _ rfl
      have c1 := (RowT.on HR3.out hb).c 1 _ rfl
      clear hb HR1 HR2 HR3
      go_wp2
      go_ret
      exact ⟨rfl, HX.out.below⟩
    · have d1 : ¬ ((I : Int) = (N : Int)) := by omega
      have d2 : ¬ ((N : Int) < (I : Int)) := by omega
      clear HW2
      have a0 := HR1.out.c 0 _ rfl
      have a1 := HR1.out.c 1 _ rfl
      have a2 := HR1.out.c 2 _ rfl
      have a3 := HR1.out.c 3 _ rfl
      have b0 := HR2.out.c 0 _ rfl
      have b1 := HR2.out.c 1 _ rfl
      have b2 := HR2.out.c 2 _ rfl
      have b3 := HR2.out.c 3 _ rfl
      go_wp2_with fail
      refine (HC2.out _ HX.out.below).mono ?_
      rintro e wb ⟨rfl, hb⟩
      clear a0 a1 a2 a3 b0 b1 b2 b3 HC2
      replace HX : Hid (Bx W wb p l21r b) := HX.out.on hb
      have a1 := (RowT.on HR1.out hb).c 1 _ rfl
      have c1 := (RowT.on HR3.out hb).c 1 _ rfl
      clear hb HR1 HR2 HR3
      go_wp2
      go_ret
      exact ⟨rfl, HX.out.below⟩
    · subst e1
      clear HW2
      have a0 := HR1.out.c 0 _ rfl
      have a1 := HR1.out.c 1 _ rfl
      have a2 := HR1.out.c 2 _ rfl
      have a3 := HR1.out.c 3 _ rfl
      have b0 := HR2.out.c 0 _ rfl
      have b1 := HR2.out.c 1 _ rfl
      have b2 := HR2.out.c 2 _ rfl
      have b3 := HR2.out.c 3 _ rfl
      go_wp2_with fail
      refine (HC2.out _ HX.out.below).mono ?_
      rintro e wb ⟨rfl, hb⟩
      clear a0 a1 a2 a3 b0 b1 b2 b3 HC2
      replace HX : Hid (Bx W wb p l21r b) := HX.out.on hb
      have a1 := (RowT.on HR1.out hb).c 1 _ rfl
      have c1 := (RowT.on HR3.out hb).c 1 _ rfl
      clear hb HR1 HR2 HR3
      go_wp2
      go_ret
      exact ⟨rfl, HX.out.below⟩
  · have c1 : ¬ ((k : Int) < (j : Int)) := by have := HNM.out; omega
    have c2 : (j : Int) < (k : Int) := by have := HNM.out; omega
    clear h1 h2
    go_upto_region 14 with fail
    clear c1 c2 ek ej tk tj hkb hjb
    go_upto_region 15 with fail
    clear eI tI hIb
    replace HX : Hid (Bx W (v8.alloc (.cells #[.bool false, .int .u32 (I : Int), .bool false, .string d] 30)) p l21r b) := HX.out.al _
    replace HR1 : Hid (RowT 30 (v8.alloc (.cells #[.bool false, .int .u32 (I : Int), .bool false, .string d] 30)) g1 #[.bool false, .int .u32 (N : Int), .bool false, .string ⟨#[0, 0, 0, 5]⟩]) := (RowT.on HR1.out ((Below.refl _ _).alloc (Nat.le_refl _) _))
    replace HR2 : Hid (RowT 30 (v8.alloc (.cells #[.bool false, .int .u32 (I : Int), .bool false, .string d] 30)) g2 #[.bool false, .int .u32 (M : Int), .bool false, .string ⟨#[1, 1, 0, 9]⟩]) := (RowT.on HR2.out ((Below.refl _ _).alloc (Nat.le_refl _) _))
    have HR3 : Hid (RowT 30 (v8.alloc (.cells #[.bool false, .int .u32 (I : Int), .bool false, .string d] 30)) v8.heap.size #[.bool false, .int .u32 (I : Int), .bool false, .string d]) := RowT.new _ _ _
    generalize v8.alloc (.cells #[.bool false, .int .u32 (I : Int), .bool false, .string d] 30) = v9 at HX HR1 HR2 HR3 ⊢
    generalize v8.heap.size = g3 at HR3 ⊢
    have a0 := HR1.out.c 0 _ rfl
    have a1 := HR1.out.c 1 _ rfl
    have a2 := HR1.out.c 2 _ rfl
    have a3 := HR1.out.c 3 _ rfl
    have c0 := HR3.out.c 0 _ rfl
    have c1 := HR3.out.c 1 _ rfl
    have c2 := HR3.out.c 2 _ rfl
    have c3 := HR3.out.c 3 _ rfl
    go_wp2_with fail
    refine (HC1.out _ HX.out.below).mono ?_
    rintro e wa ⟨rfl, hb⟩
    clear a0 a1 a2 a3 c0 c1 c2 c3 HC1
    replace HX : Hid (Bx W wa p l21r b) := HX.out.on hb
    replace HR1 : Hid (RowT 30 (wa) g1 #[.bool false, .int .u32 (N : Int), .bool false, .string ⟨#[0, 0, 0, 5]⟩]) := (RowT.on HR1.out hb)
    replace HR2 : Hid (RowT 30 (wa) g2 #[.bool false, .int .u32 (M : Int), .bool false, .string ⟨#[1, 1, 0, 9]⟩]) := (RowT.on HR2.out hb)
    replace HR3 : Hid (RowT 30 (wa) g3 #[.bool false, .int .u32 (I : Int), .bool false, .string d]) := (RowT.on HR3.out hb)
    clear hb
    rcases HW2.out with ⟨e1, rfl⟩ | ⟨e1, e2, rfl⟩ | ⟨e1, rfl⟩
    · have d1 : ¬ ((I : Int) = (N : Int)) := by omega
      have d2 : (N : Int) < (I : Int) := by omega
      clear HW2
      have a0 := HR1.out.c 0 _ rfl
      have a1 := HR1.out.c 1 _ rfl
      have a2 := HR1.out.c 2 _ rfl
      have a3 := HR1.out.c 3 _ rfl
      have b0 := HR2.out.c 0 _ rfl
      have b1 := HR2.out.c 1 _ rfl
      have b2 := HR2.out.c 2 _ rfl
      have b3 := HR2.out.c 3 _ rfl
      go_wp2_with fail
      refine (HC2.out _ HX.out.below).mono ?_
      rintro e wb ⟨rfl, hb⟩
      clear a0 a1 a2 a3 b0 b1 b2 b3 HC2
      replace HX : Hid (Bx W wb p l21r b) := HX.out.on hb
      have a1 := (RowT.on HR1.out hb).c 1 _ rfl
      have c1 := (RowT.on HR3.out hb).c 1 _ rfl
      clear hb HR1 HR2 HR3
      go_wp2
      go_ret
      exact ⟨rfl, HX.out.below⟩
    · have d1 : ¬ ((I : Int) = (N : Int)) := by omega
      have d2 : ¬ ((N : Int) < (I : Int)) := by omega
      clear HW2
      have a0 := HR1.out.c 0 _ rfl
      have a1 := HR1.out.c 1 _ rfl
      have a2 := HR1.out.c 2 _ rfl
      have a3 := HR1.out.c 3 _ rfl
      have b0 := HR2.out.c 0 _ rfl
      have b1 := HR2.out.c 1 _ rfl
      have b2 := HR2.out.c 2 _ rfl
      have b3 := HR2.out.c 3 _ rfl
      go_wp2_with fail
      refine (HC2.out _ HX.out.below).mono ?_
      rintro e wb ⟨rfl, hb⟩
      clear a0 a1 a2 a3 b0 b1 b2 b3 HC2
      replace HX : Hid (Bx W wb p l21r b) := HX.out.on hb
      have a1 := (RowT.on HR1.out hb).c 1 _ rfl
      have c1 := (RowT.on HR3.out hb).c 1 _ rfl
      clear hb HR1 HR2 HR3
      go_wp2
      go_ret
      exact ⟨rfl, HX.out.below⟩
    · subst e1
      clear HW2
      have a0 := HR1.out.c 0 _ rfl
      have a1 := HR1.out.c 1 _ rfl
      have a2 := HR1.out.c 2 _ rfl
      have a3 := HR1.out.c 3 _ rfl
      have b0 := HR2.out.c 0 _ rfl
      have b1 := HR2.out.c 1 _ rfl
      have b2 := HR2.out.c 2 _ rfl
      have b3 := HR2.out.c 3 _ rfl
      go_wp2_with fail
      refine (HC2.out _ HX.out.below).mono ?_
      rintro e wb ⟨rfl, hb⟩
      clear a0 a1 a2 a3 b0 b1 b2 b3 HC2
      replace HX : Hid (Bx W wb p l21r b) := HX.out.on hb
      have a1 := (RowT.on HR1.out hb).c 1 _ rfl
      have c1 := (RowT.on HR3.out hb).c 1 _ rfl
      clear hb HR1 HR2 HR3
      go_wp2
      go_ret
      exact ⟨rfl, HX.out.below⟩
  · have c1 : ¬ ((k : Int) < (j : Int)) := by have := HNM.out; omega
    have c2 : ¬ ((j : Int) < (k : Int)) := by have := HNM.out; omega
    clear h1
    go_upto_region 14 with fail
    clear c1 c2 ek ej tk tj hkb hjb
    go_upto_region 15 with fail
    clear eI tI hIb
    replace HX : Hid (Bx W (v8.alloc (.cells #[.bool false, .int .u32 (I : Int), .bool false, .string d] 30)) p l21r b) := HX.out.al _
    replace HR1 : Hid (RowT 30 (v8.alloc (.cells #[.bool false, .int .u32 (I : Int), .bool false, .string d] 30)) g1 #[.bool false, .int .u32 (N : Int), .bool false, .string ⟨#[0, 0, 0, 5]⟩]) := (RowT.on HR1.out ((Below.refl _ _).alloc (Nat.le_refl _) _))
    replace HR2 : Hid (RowT 30 (v8.alloc (.cells #[.bool false, .int .u32 (I : Int), .bool false, .string d] 30)) g2 #[.bool false, .int .u32 (M : Int), .bool false, .string ⟨#[1, 1, 0, 9]⟩]) := (RowT.on HR2.out ((Below.refl _ _).alloc (Nat.le_refl _) _))
    have HR3 : Hid (RowT 30 (v8.alloc (.cells #[.bool false, .int .u32 (I : Int), .bool false, .string d] 30)) v8.heap.size #[.bool false, .int .u32 (I : Int), .bool false, .string d]) := RowT.new _ _ _
    generalize v8.alloc (.cells #[.bool false, .int .u32 (I : Int), .bool false, .string d] 30) = v9 at HX HR1 HR2 HR3 ⊢
    generalize v8.heap.size = g3 at HR3 ⊢
    have a0 := HR1.out.c 0 _ rfl
    have a1 := HR1.out.c 1 _ rfl
    have a2 := HR1.out.c 2 _ rfl
    have a3 := HR1.out.c 3 _ rfl
    have c0 := HR3.out.c 0 _ rfl
    have c1 := HR3.out.c 1 _ rfl
    have c2 := HR3.out.c 2 _ rfl
    have c3 := HR3.out.c 3 _ rfl
    go_wp2_with fail
    refine (HC1.out _ HX.out.below).mono ?_
    rintro e wa ⟨rfl, hb⟩
    clear a0 a1 a2 a3 c0 c1 c2 c3 HC1
    replace HX : Hid (Bx W wa p l21r b) := HX.out.on hb
    replace HR1 : Hid (RowT 30 (wa) g1 #[.bool false, .int .u32 (N : Int), .bool false, .string ⟨#[0, 0, 0, 5]⟩]) := (RowT.on HR1.out hb)
    replace HR2 : Hid (RowT 30 (wa) g2 #[.bool false, .int .u32 (M : Int), .bool false, .string ⟨#[1, 1, 0, 9]⟩]) := (RowT.on HR2.out hb)
    replace HR3 : Hid (RowT 30 (wa) g3 #[.bool false, .int .u32 (I : Int), .bool false, .string d]) := (RowT.on HR3.out hb)
    clear hb
    rcases HW2.out with ⟨e1, rfl⟩ | ⟨e1, e2, rfl⟩ | ⟨e1, rfl⟩
    · have d1 : ¬ ((I : Int) = (N : Int)) := by omega
      have d2 : (N : Int) < (I : Int) := by omega
      clear HW2
      have a0 := HR1.out.c 0 _ rfl
      have a1 := HR1.out.c 1 _ rfl
      have a2 := HR1.out.c 2 _ rfl
      have a3 := HR1.out.c 3 _ rfl
      have b0 := HR2.out.c 0 _ rfl
      have b1 := HR2.out.c 1 _ rfl
      have b2 := HR2.out.c 2 _ rfl
      have b3 := HR2.out.c 3 _ rfl
      go_wp2_with fail
      refine (HC2.out _ HX.out.below).mono ?_
      rintro e wb ⟨rfl, hb⟩
      clear a0 a1 a2 a3 b0 b1 b2 b3 HC2
      replace HX : Hid (Bx W wb p l21r b) := HX.out.on hb
      have a1 := (RowT.on HR1.out hb).c 1 _ rfl
      have c1 := (RowT.on HR3.out hb).c 1 _ rfl
      clear hb HR1 HR2 HR3
      go_wp2
      go_ret
      exact ⟨rfl, HX.out.below⟩
    · have d1 : ¬ ((I : Int) = (N : Int)) := by omega
      have d2 : ¬ ((N : Int) < (I : Int)) := by omega
      clear HW2
      have a0 := HR1.out.c 0 _ rfl
      have a1 := HR1.out.c 1 _ rfl
      have a2 := HR1.out.c 2 _ rfl
      have a3 := HR1.out.c 3 _ rfl
      have b0 := HR2.out.c 0 _ rfl
      have b1 := HR2.out.c 1 _ rfl
      have b2 := HR2.out.c 2 _ rfl
      have b3 := HR2.out.c 3 _ rfl
      go_wp2_with fail
      refine (HC2.out _ HX.out.below).mono ?_
      rintro e wb ⟨rfl, hb⟩
      clear a0 a1 a2 a3 b0 b1 b2 b3 HC2
      replace HX : Hid (Bx W wb p l21r b) := HX.out.on hb
      have a1 := (RowT.on HR1.out hb).c 1 _ rfl
      have c1 := (RowT.on HR3.out hb).c 1 _ rfl
      clear hb HR1 HR2 HR3
      go_wp2
      go_ret
      exact ⟨rfl, HX.out.below⟩
    · subst e1
      clear HW2
      have a0 := HR1.out.c 0 _ rfl
      have a1 := HR1.out.c 1 _ rfl
      have a2 := HR1.out.c 2 _ rfl
      have a3 := HR1.out.c 3 _ rfl
      have b0 := HR2.out.c 0 _ rfl
      have b1 := HR2.out.c 1 _ rfl
      have b2 := HR2.out.c 2 _ rfl
      have b3 := HR2.out.c 3 _ rfl
      go_wp2_with fail
      refine (HC2.out _ HX.out.below).mono ?_
      rintro e wb ⟨rfl, hb⟩
      clear a0 a1 a2 a3 b0 b1 b2 b3 HC2
      replace HX : Hid (Bx W wb p l21r b) := HX.out.on hb
      have a1 := (RowT.on HR1.out hb).c 1 _ rfl
      have c1 := (RowT.on HR3.out hb).c 1 _ rfl
      clear hb HR1 HR2 HR3
      go_wp2
      go_ret
      exact ⟨rfl, HX.out.below⟩
end Go.Proofs.YtoinkaakiohclaaDoor.refmsgRanks
