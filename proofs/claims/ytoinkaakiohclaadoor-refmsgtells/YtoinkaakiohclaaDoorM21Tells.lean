/- RefmsgTells: of every matrix of few entries and beat its frame; of every frame of at most twenty bytes the beat, or that it is none (others are let by); no condition. -/
import Derived.Test.YtoinkaakiohclaaDoorK21
import Derived.Test.YtoinkaakiohclaaDoorV21
import Derived.Deep.CutBlock
import Derived.ProofKit
import Derived.OpenShut
namespace Go.Proofs.YtoinkaakiohclaaDoor.refmsgTells
open Go.ChangeShapes Go.WideShapes Go.ChangeAt Go.RowKit
set_option linter.unusedVariables false
variable {Q : World → Prop}
theorem bV_form (o : Option (Nat × ByteArray)) : ∃ (n1 : Nat) (d1 : ByteArray) (b : Bool), bV o = .tuple #[.agg #[.bool false, .int .u32 (n1 : Int), .bool false, .string d1], .bool b] := by
  cases o with
  | none => exact ⟨0, ByteArray.empty, false, rfl⟩
  | some p => exact ⟨p.1, p.2, true, rfl⟩
theorem btV_form (o : Option Q21.Bt) : ∃ (r1 c1 g1 : Int) (e1 b : Bool), btV o = .tuple #[.agg #[.int .i64 r1, .int .i64 c1, .int .u16 g1, .bool e1], .bool b] := by
  cases o with
  | none => exact ⟨0, 0, 0, false, false, rfl⟩
  | some p => exact ⟨p.rank, p.cycle, p.glob, p.disc, true, rfl⟩
set_option maxRecDepth 100000 in
set_option maxHeartbeats 8000000 in
theorem walkA (hQ : ∀ w w', Q w → Below w.heap.size w w' → Q w') (S : RefSpec Q) (m : Mx.M) (a : Ma) (rank cycle : Int) (g : Nat) (dd : Bool) (x : Bool) (n : Nat) (r : Bool) (d : ByteArray) {W0 : World} (hm : MIn W0 m a) (hwf : Mx.Wf m) (h1 : (Lit.int .i64 rank).wf = true) (h2 : (Lit.int .i64 cycle).wf = true) (hg : g < 65536) (hn : n < 4294967296) (W : World) (hw0 : W = W0) (hW : Q W) :
    Calls Tryd.prog 3 #[mV m a, .int .i64 rank, .int .i64 cycle, .int .u16 (g : Int), .bool dd, .agg #[.bool x, .int .u32 (n : Int), .bool r, .string d]] W fun e w' => e = .returned (.bool true) ∧ Below W.heap.size W w' := by
  subst hw0
  have HQ : Hid (∀ w, Below W.heap.size W w → Q w) := fun w hb => hQ W w hW hb
  have HK : Hid (∀ w, Below W.heap.size W w → Calls Tryd.prog 7 #[] w fun e w' => e = .returned (.bool true) ∧ Below w.heap.size w w') := fun w hb => known21_any hQ S w (HQ.out _ hb)
  have HM : Hid (∀ w, Below W.heap.size W w → MIn w m a) := fun w hb => hm.on hb
  obtain ⟨n1, d1, b1, hbv⟩ := bV_form (Q21.build m rank cycle g dd)
  obtain ⟨r1, c1, g1, e1, b2, hbt⟩ := btV_form (Q21.parse m x n r d)
  have HP1 : Hid (Mx.Small m → ∀ w, Below W.heap.size W w → Calls Tryd.prog 9 #[.agg (mCs m a), .int .i64 rank, .int .i64 cycle, .int .u16 (g : Int), .bool dd] w fun e w' => e = .returned (.tuple #[.agg #[.bool false, .int .u32 (n1 : Int), .bool false, .string d1], .bool b1]) ∧ Below w.heap.size w w') := fun hs w hb => by have h := S.build w m a rank cycle g dd (HQ.out _ hb) (HM.out _ hb) hs hwf h1 h2 hg; rw [hbv] at h; exact h
  have HP2 : Hid (∀ w, Below W.heap.size W w → Calls Tryd.prog 10 #[.agg (mCs m a), .int .i64 rank, .int .i64 cycle, .int .u16 (g : Int), .bool dd] w fun e w' => e = .returned (.tuple #[.agg #[.bool false, .int .u32 (n1 : Int), .bool false, .string d1], .bool b1]) ∧ Below w.heap.size w w') := fun w hb => by have h := rbuild_any w m a rank cycle g dd (HM.out _ hb) hg; rw [hbv] at h; exact h
  have HP3 : Hid (Mx.Small m → d.size ≤ 20 → ∀ w, Below W.heap.size W w → Calls Tryd.prog 11 #[.agg (mCs m a), .agg #[.bool x, .int .u32 (n : Int), .bool r, .string d]] w fun e w' => e = .returned (.tuple #[.agg #[.int .i64 r1, .int .i64 c1, .int .u16 g1, .bool e1], .bool b2]) ∧ Below w.heap.size w w') := fun hs hd w hb => by have h := S.parse w m a x n r d (HQ.out _ hb) (HM.out _ hb) hs hwf hn (by omega); rw [hbt] at h; exact h
  have HP4 : Hid (d.size ≤ 20 → ∀ w, Below W.heap.size W w → Calls Tryd.prog 12 #[.agg (mCs m a), .agg #[.bool x, .int .u32 (n : Int), .bool r, .string d]] w fun e w' => e = .returned (.tuple #[.agg #[.int .i64 r1, .int .i64 c1, .int .u16 g1, .bool e1], .bool b2]) ∧ Below w.heap.size w w') := fun hd w hb => by have h := rbeats_any w m a x n r d (HM.out _ hb) hwf hn (by omega); rw [hbt] at h; exact h
  have HF : Hid (Fx W ((W.alloc (.cells (mCs m a) 27)).alloc (.cells #[.bool x, .int .u32 (n : Int), .bool r, .string d] 30)) W.heap.size (W.heap.size + 1) m a #[.bool x, .int .u32 (n : Int), .bool r, .string d]) := by
    have q1 : RowT 27 (W.alloc (.cells (mCs m a) 27)) W.heap.size (mCs m a) := RowT.new _ _ _
    have hb1 : Below W.heap.size W (W.alloc (.cells (mCs m a) 27)) := (Below.refl _ _).alloc (Nat.le_refl _) _
    have hb2 : Below (W.alloc (.cells (mCs m a) 27)).heap.size (W.alloc (.cells (mCs m a) 27)) ((W.alloc (.cells (mCs m a) 27)).alloc (.cells #[.bool x, .int .u32 (n : Int), .bool r, .string d] 30)) := (Below.refl _ _).alloc (Nat.le_refl _) _
    have q2 : RowT 30 ((W.alloc (.cells (mCs m a) 27)).alloc (.cells #[.bool x, .int .u32 (n : Int), .bool r, .string d] 30)) (W.alloc (.cells (mCs m a) 27)).heap.size #[.bool x, .int .u32 (n : Int), .bool r, .string d] := RowT.new _ _ _
    rw [World.size_alloc] at q2
    exact ⟨q1.on hb2, q2, by omega, hb1.trans (hb2.mono hb1.size)⟩
  have HFo : Hid (∀ w o, Fx W w W.heap.size (W.heap.size + 1) m a #[.bool x, .int .u32 (n : Int), .bool r, .string d] → Fx W (w.alloc o) W.heap.size (W.heap.size + 1) m a #[.bool x, .int .u32 (n : Int), .bool r, .string d]) := fun w o h => h.on ((Below.refl _ _).alloc (Nat.le_refl _) _)
  show Calls _ _ #[.agg (mCs m a), _, _, _, _, _] _ _
  clear hm hwf h1 h2 hQ hW hbv hbt
  go_enter Tryd.func3, Tryd.ntmps3
  go_upto_region 1 with fail
  generalize (W.alloc (.cells (mCs m a) 27)).alloc (.cells #[.bool x, .int .u32 (n : Int), .bool r, .string d] 30) = v at HF ⊢
  go_wp2_with fail
  refine (HK.out _ HF.out.bel).mono ?_
  rintro e w1 ⟨rfl, hb⟩
  replace HF : Hid (Fx W w1 W.heap.size (W.heap.size + 1) m a #[.bool x, .int .u32 (n : Int), .bool r, .string d]) := HF.out.on hb
  clear hb HK
  obtain ⟨y0, y1, y2, y3, y4, y5, y6, y7, y8, y9, y10⟩ := HF.out.mat.mat
  have z0 := (show Hid (RowT 30 w1 (W.heap.size + 1) #[.bool x, .int .u32 (n : Int), .bool r, .string d]) from HF.out.fra).out.c 0 _ rfl
  have z1 := (show Hid (RowT 30 w1 (W.heap.size + 1) #[.bool x, .int .u32 (n : Int), .bool r, .string d]) from HF.out.fra).out.c 1 _ rfl
  have z2 := (show Hid (RowT 30 w1 (W.heap.size + 1) #[.bool x, .int .u32 (n : Int), .bool r, .string d]) from HF.out.fra).out.c 2 _ rfl
  have z3 := (show Hid (RowT 30 w1 (W.heap.size + 1) #[.bool x, .int .u32 (n : Int), .bool r, .string d]) from HF.out.fra).out.c 3 _ rfl
  go_wp2_with fail
  refine (few21_any w1 m a).mono ?_
  rintro e w2 ⟨rfl, hb⟩
  replace HF : Hid (Fx W w2 W.heap.size (W.heap.size + 1) m a #[.bool x, .int .u32 (n : Int), .bool r, .string d]) := HF.out.on hb
  clear y0 y1 y2 y3 y4 y5 y6 y7 y8 y9 y10 z0 z1 z2 z3 hb
  cases hfw : Mx.few m
  · clear HP1 HP3 HP4
    go_wp2
    go_ret
    exact ⟨rfl, HF.out.bel⟩
  replace HP1 := HP1.out (Mx.few_small hfw)
  replace HP3 := HP3.out (Mx.few_small hfw)
  clear hfw
  have z0 := (show Hid (RowT 30 w2 (W.heap.size + 1) #[.bool x, .int .u32 (n : Int), .bool r, .string d]) from HF.out.fra).out.c 0 _ rfl
  have z1 := (show Hid (RowT 30 w2 (W.heap.size + 1) #[.bool x, .int .u32 (n : Int), .bool r, .string d]) from HF.out.fra).out.c 1 _ rfl
  have z2 := (show Hid (RowT 30 w2 (W.heap.size + 1) #[.bool x, .int .u32 (n : Int), .bool r, .string d]) from HF.out.fra).out.c 2 _ rfl
  have z3 := (show Hid (RowT 30 w2 (W.heap.size + 1) #[.bool x, .int .u32 (n : Int), .bool r, .string d]) from HF.out.fra).out.c 3 _ rfl
  by_cases h20 : 20 < d.size
  · have h20i : (20 : Int) < (d.size : Int) := by omega
    clear HP1 HP3 HP4 h20
    go_wp2
    go_ret
    exact ⟨rfl, HF.out.bel⟩
  have h20i : ¬ ((20 : Int) < (d.size : Int)) := by omega
  have HP3 : Hid (∀ w, Below W.heap.size W w → Calls Tryd.prog 11 #[.agg (mCs m a), .agg #[.bool x, .int .u32 (n : Int), .bool r, .string d]] w fun e w' => e = .returned (.tuple #[.agg #[.int .i64 r1, .int .i64 c1, .int .u16 g1, .bool e1], .bool b2]) ∧ Below w.heap.size w w') := HP3 (by omega)
  have HP1 : Hid (∀ w, Below W.heap.size W w → Calls Tryd.prog 9 #[.agg (mCs m a), .int .i64 rank, .int .i64 cycle, .int .u16 (g : Int), .bool dd] w fun e w' => e = .returned (.tuple #[.agg #[.bool false, .int .u32 (n1 : Int), .bool false, .string d1], .bool b1]) ∧ Below w.heap.size w w') := HP1
  have HP4 : Hid (∀ w, Below W.heap.size W w → Calls Tryd.prog 12 #[.agg (mCs m a), .agg #[.bool x, .int .u32 (n : Int), .bool r, .string d]] w fun e w' => e = .returned (.tuple #[.agg #[.int .i64 r1, .int .i64 c1, .int .u16 g1, .bool e1], .bool b2]) ∧ Below w.heap.size w w') := HP4.out (by omega)
  clear h20
  go_upto_region 5 with fail
  clear h20i z0 z1 z2 z3
  obtain ⟨y0, y1, y2, y3, y4, y5, y6, y7, y8, y9, y10⟩ := HF.out.mat.mat
  have z0 := (show Hid (RowT 30 w2 (W.heap.size + 1) #[.bool x, .int .u32 (n : Int), .bool r, .string d]) from HF.out.fra).out.c 0 _ rfl
  have z1 := (show Hid (RowT 30 w2 (W.heap.size + 1) #[.bool x, .int .u32 (n : Int), .bool r, .string d]) from HF.out.fra).out.c 1 _ rfl
  have z2 := (show Hid (RowT 30 w2 (W.heap.size + 1) #[.bool x, .int .u32 (n : Int), .bool r, .string d]) from HF.out.fra).out.c 2 _ rfl
  have z3 := (show Hid (RowT 30 w2 (W.heap.size + 1) #[.bool x, .int .u32 (n : Int), .bool r, .string d]) from HF.out.fra).out.c 3 _ rfl
  go_wp2_with fail
  refine (HP1.out _ HF.out.bel).mono ?_
  rintro e x0 ⟨rfl, hb⟩
  replace HF : Hid (Fx W (x0.alloc (.cells #[.bool false, .int .u32 (n1 : Int), .bool false, .string d1] 30)) W.heap.size (W.heap.size + 1) m a #[.bool x, .int .u32 (n : Int), .bool r, .string d]) := HFo.out _ _ (HF.out.on hb)
  have HR0 : Hid (RowT 30 (x0.alloc (.cells #[.bool false, .int .u32 (n1 : Int), .bool false, .string d1] 30)) x0.heap.size #[.bool false, .int .u32 (n1 : Int), .bool false, .string d1]) := RowT.new _ _ _
  clear hb y0 y1 y2 y3 y4 y5 y6 y7 y8 y9 y10 z0 z1 z2 z3
  go_upto_region 6 with fail
  generalize x0.alloc (.cells #[.bool false, .int .u32 (n1 : Int), .bool false, .string d1] 30) = u0 at HF HR0 ⊢
  generalize x0.heap.size = q0 at HR0 ⊢
  obtain ⟨y0, y1, y2, y3, y4, y5, y6, y7, y8, y9, y10⟩ := HF.out.mat.mat
  have z0 := (show Hid (RowT 30 u0 (W.heap.size + 1) #[.bool x, .int .u32 (n : Int), .bool r, .string d]) from HF.out.fra).out.c 0 _ rfl
  have z1 := (show Hid (RowT 30 u0 (W.heap.size + 1) #[.bool x, .int .u32 (n : Int), .bool r, .string d]) from HF.out.fra).out.c 1 _ rfl
  have z2 := (show Hid (RowT 30 u0 (W.heap.size + 1) #[.bool x, .int .u32 (n : Int), .bool r, .string d]) from HF.out.fra).out.c 2 _ rfl
  have z3 := (show Hid (RowT 30 u0 (W.heap.size + 1) #[.bool x, .int .u32 (n : Int), .bool r, .string d]) from HF.out.fra).out.c 3 _ rfl
  go_wp2_with fail
  refine (HP2.out _ HF.out.bel).mono ?_
  rintro e x1 ⟨rfl, hb⟩
  replace HF : Hid (Fx W (x1.alloc (.cells #[.bool false, .int .u32 (n1 : Int), .bool false, .string d1] 30)) W.heap.size (W.heap.size + 1) m a #[.bool x, .int .u32 (n : Int), .bool r, .string d]) := HFo.out _ _ (HF.out.on hb)
  replace HR0 : Hid (RowT 30 (x1.alloc (.cells #[.bool false, .int .u32 (n1 : Int), .bool false, .string d1] 30)) q0 #[.bool false, .int .u32 (n1 : Int), .bool false, .string d1]) := (RowT.on HR0.out hb).on ((Below.refl _ _).alloc (Nat.le_refl _) _)
  have HR1 : Hid (RowT 30 (x1.alloc (.cells #[.bool false, .int .u32 (n1 : Int), .bool false, .string d1] 30)) x1.heap.size #[.bool false, .int .u32 (n1 : Int), .bool false, .string d1]) := RowT.new _ _ _
  clear hb y0 y1 y2 y3 y4 y5 y6 y7 y8 y9 y10 z0 z1 z2 z3
  go_upto_region 7 with fail
  generalize x1.alloc (.cells #[.bool false, .int .u32 (n1 : Int), .bool false, .string d1] 30) = u1 at HF HR0 HR1 ⊢
  generalize x1.heap.size = q1 at HR1 ⊢
  obtain ⟨y0, y1, y2, y3, y4, y5, y6, y7, y8, y9, y10⟩ := HF.out.mat.mat
  have z0 := (show Hid (RowT 30 u1 (W.heap.size + 1) #[.bool x, .int .u32 (n : Int), .bool r, .string d]) from HF.out.fra).out.c 0 _ rfl
  have z1 := (show Hid (RowT 30 u1 (W.heap.size + 1) #[.bool x, .int .u32 (n : Int), .bool r, .string d]) from HF.out.fra).out.c 1 _ rfl
  have z2 := (show Hid (RowT 30 u1 (W.heap.size + 1) #[.bool x, .int .u32 (n : Int), .bool r, .string d]) from HF.out.fra).out.c 2 _ rfl
  have z3 := (show Hid (RowT 30 u1 (W.heap.size + 1) #[.bool x, .int .u32 (n : Int), .bool r, .string d]) from HF.out.fra).out.c 3 _ rfl
  go_wp2_with fail
  refine (HP3.out _ HF.out.bel).mono ?_
  rintro e x2 ⟨rfl, hb⟩
  replace HF : Hid (Fx W (x2.alloc (.cells #[.int .i64 r1, .int .i64 c1, .int .u16 g1, .bool e1] 36)) W.heap.size (W.heap.size + 1) m a #[.bool x, .int .u32 (n : Int), .bool r, .string d]) := HFo.out _ _ (HF.out.on hb)
  replace HR0 : Hid (RowT 30 (x2.alloc (.cells #[.int .i64 r1, .int .i64 c1, .int .u16 g1, .bool e1] 36)) q0 #[.bool false, .int .u32 (n1 : Int), .bool false, .string d1]) := (RowT.on HR0.out hb).on ((Below.refl _ _).alloc (Nat.le_refl _) _)
  replace HR1 : Hid (RowT 30 (x2.alloc (.cells #[.int .i64 r1, .int .i64 c1, .int .u16 g1, .bool e1] 36)) q1 #[.bool false, .int .u32 (n1 : Int), .bool false, .string d1]) := (RowT.on HR1.out hb).on ((Below.refl _ _).alloc (Nat.le_refl _) _)
  have HR2 : Hid (RowT 36 (x2.alloc (.cells #[.int .i64 r1, .int .i64 c1, .int .u16 g1, .bool e1] 36)) x2.heap.size #[.int .i64 r1, .int .i64 c1, .int .u16 g1, .bool e1]) := RowT.new _ _ _
  clear hb y0 y1 y2 y3 y4 y5 y6 y7 y8 y9 y10 z0 z1 z2 z3
  go_upto_region 8 with fail
  generalize x2.alloc (.cells #[.int .i64 r1, .int .i64 c1, .int .u16 g1, .bool e1] 36) = u2 at HF HR0 HR1 HR2 ⊢
  generalize x2.heap.size = q2 at HR2 ⊢
  obtain ⟨y0, y1, y2, y3, y4, y5, y6, y7, y8, y9, y10⟩ := HF.out.mat.mat
  have z0 := (show Hid (RowT 30 u2 (W.heap.size + 1) #[.bool x, .int .u32 (n : Int), .bool r, .string d]) from HF.out.fra).out.c 0 _ rfl
  have z1 := (show Hid (RowT 30 u2 (W.heap.size + 1) #[.bool x, .int .u32 (n : Int), .bool r, .string d]) from HF.out.fra).out.c 1 _ rfl
  have z2 := (show Hid (RowT 30 u2 (W.heap.size + 1) #[.bool x, .int .u32 (n : Int), .bool r, .string d]) from HF.out.fra).out.c 2 _ rfl
  have z3 := (show Hid (RowT 30 u2 (W.heap.size + 1) #[.bool x, .int .u32 (n : Int), .bool r, .string d]) from HF.out.fra).out.c 3 _ rfl
  go_wp2_with fail
  refine (HP4.out _ HF.out.bel).mono ?_
  rintro e x3 ⟨rfl, hb⟩
  replace HF : Hid (Fx W (x3.alloc (.cells #[.int .i64 r1, .int .i64 c1, .int .u16 g1, .bool e1] 36)) W.heap.size (W.heap.size + 1) m a #[.bool x, .int .u32 (n : Int), .bool r, .string d]) := HFo.out _ _ (HF.out.on hb)
  replace HR0 : Hid (RowT 30 (x3.alloc (.cells #[.int .i64 r1, .int .i64 c1, .int .u16 g1, .bool e1] 36)) q0 #[.bool false, .int .u32 (n1 : Int), .bool false, .string d1]) := (RowT.on HR0.out hb).on ((Below.refl _ _).alloc (Nat.le_refl _) _)
  replace HR1 : Hid (RowT 30 (x3.alloc (.cells #[.int .i64 r1, .int .i64 c1, .int .u16 g1, .bool e1] 36)) q1 #[.bool false, .int .u32 (n1 : Int), .bool false, .string d1]) := (RowT.on HR1.out hb).on ((Below.refl _ _).alloc (Nat.le_refl _) _)
  replace HR2 : Hid (RowT 36 (x3.alloc (.cells #[.int .i64 r1, .int .i64 c1, .int .u16 g1, .bool e1] 36)) q2 #[.int .i64 r1, .int .i64 c1, .int .u16 g1, .bool e1]) := (RowT.on HR2.out hb).on ((Below.refl _ _).alloc (Nat.le_refl _) _)
  have HR3 : Hid (RowT 36 (x3.alloc (.cells #[.int .i64 r1, .int .i64 c1, .int .u16 g1, .bool e1] 36)) x3.heap.size #[.int .i64 r1, .int .i64 c1, .int .u16 g1, .bool e1]) := RowT.new _ _ _
  clear hb y0 y1 y2 y3 y4 y5 y6 y7 y8 y9 y10 z0 z1 z2 z3
  go_upto_region 9 with fail
  generalize x3.alloc (.cells #[.int .i64 r1, .int .i64 c1, .int .u16 g1, .bool e1] 36) = u3 at HF HR0 HR1 HR2 HR3 ⊢
  generalize x3.heap.size = q3 at HR3 ⊢
  have a0 := HR0.out.c 0 _ rfl
  have a1 := HR0.out.c 1 _ rfl
  have a2 := HR0.out.c 2 _ rfl
  have a3 := HR0.out.c 3 _ rfl
  have b0 := HR1.out.c 0 _ rfl
  have b1 := HR1.out.c 1 _ rfl
  have b2 := HR1.out.c 2 _ rfl
  have b3 := HR1.out.c 3 _ rfl
  have c0 := HR2.out.c 0 _ rfl
  have c1 := HR2.out.c 1 _ rfl
  have c2 := HR2.out.c 2 _ rfl
  have c3 := HR2.out.c 3 _ rfl
  have e0 := HR3.out.c 0 _ rfl
  have e1 := HR3.out.c 1 _ rfl
  have e2 := HR3.out.c 2 _ rfl
  have e3 := HR3.out.c 3 _ rfl
  go_wp2
  go_ret
  exact ⟨rfl, HF.out.bel⟩
end Go.Proofs.YtoinkaakiohclaaDoor.refmsgTells
