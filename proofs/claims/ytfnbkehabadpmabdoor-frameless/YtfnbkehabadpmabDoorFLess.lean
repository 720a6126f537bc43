/- FrameLess: the lesser identifier wins; one without Ext wins against each with Ext of the same first bits; data against its request. No condition but the row's own: the table of widths holds what the program's text lays. -/
import Derived.Test.YtfnbkehabadpmabDoorGl
namespace Go.Proofs.YtfnbkehabadpmabDoor.frameLess
open Go.ChangeShapes Go.WideShapes Go.ChangeAt Go.RowKit
open Go.ChangeMaps (open_string shut_string)
set_option linter.unusedVariables false
theorem Lies.new3 (w : World) (o p q : Obj) (x : Bool) (n : Nat) (r : Bool) (d : ByteArray) : Lies ((((w.alloc o).alloc p).alloc q).alloc (.cells #[.bool x, .int .u32 n, .bool r, .string d] 25)) (w.heap.size + 1 + 1 + 1) x n r d := by
  have h := heap_alloc_new (((w.alloc o).alloc p).alloc q) (.cells #[.bool x, .int .u32 n, .bool r, .string d] 25)
  rw [show (((w.alloc o).alloc p).alloc q).heap.size = w.heap.size + 1 + 1 + 1 from by simp] at h
  exact h
theorem or_join (a b : Nat) (ha : a < 2048) (hb : b < 262144) : bits .or .u32 ((a : Int) * 262144) (b : Int) = ((a * 262144 + b : Nat) : Int) := by
  have e : ((a : Int) * 262144) = ((a * 262144 : Nat) : Int) := by simp
  rw [e, u32_or_nat _ _ (by omega) (by omega)]
  congr 1
  have h := Nat.two_pow_add_eq_or_of_lt (i := 18) (b := b) (by simpa using hb) a
  rw [Nat.mul_comm a 262144]
  exact h.symm
theorem cmp_at (x : Bool) (n : Nat) (r : Bool) (y : Bool) (m : Nat) (s : Bool) (K : Int) (hn : n < Fm.top x) (hm : m < Fm.top y) (hK : Fm.sgn (Fm.key x n r) (Fm.key y m s) = K) (w : World) (hT : Tab w) :
    Calls Tryd.prog 6 #[.agg #[.bool x, .int .u32 n, .bool r, .string ⟨#[]⟩], .agg #[.bool y, .int .u32 m, .bool s, .string ⟨#[]⟩]] w fun e w' => e = .returned (.int .i64 K) ∧ Below w.heap.size w w' := by
  have t1 : Fm.top x ≤ 536870912 := by cases x <;> decide
  have t2 : Fm.top y ≤ 536870912 := by cases y <;> decide
  have i0 : Fm.isF x n r (ByteArray.mk #[]).data.toList = true := Fm.isF_mk hn (by decide) (fun _ => rfl)
  have i1 : Fm.isF y m s (ByteArray.mk #[]).data.toList = true := Fm.isF_mk hm (by decide) (fun _ => rfl)
  have h := fCmp_any x n r ⟨#[]⟩ y m s ⟨#[]⟩ w hT (by omega) (by omega)
  unfold Fm.arb at h
  rw [if_pos i0, if_pos i1, Fm.cmp_key x y n m r s hn hm, hK] at h
  exact h
theorem k_std (a b : Nat) : Fm.sgn (Fm.key false a false) (Fm.key false b false) = Fm.sgn a b := by
  unfold Fm.key
  simp only [Bool.false_eq_true, if_false, Bm.bv]
  exact Fm.sgn_same (by omega) (by omega)
theorem k_fe (a l : Nat) (hl : l < 262144) : Fm.sgn (Fm.key false a false) (Fm.key true (a * 262144 + l) false) = -1 := by
  unfold Fm.key
  simp only [Bool.false_eq_true, if_false, if_true, Bm.bv]
  exact Fm.sgn_lt (by omega)
theorem k_re (a l : Nat) (hl : l < 262144) : Fm.sgn (Fm.key false a true) (Fm.key true (a * 262144 + l) false) = -1 := by
  unfold Fm.key
  simp only [Bool.false_eq_true, if_false, if_true, Bm.bv]
  exact Fm.sgn_lt (by omega)
theorem k_fr (a : Nat) : Fm.sgn (Fm.key false a false) (Fm.key false a true) = -1 := by
  unfold Fm.key
  simp only [Bool.false_eq_true, if_false, if_true, Bm.bv]
  exact Fm.sgn_lt (by omega)
theorem k_ef (a l : Nat) (hl : l < 262144) : Fm.sgn (Fm.key true (a * 262144 + l) false) (Fm.key false a false) = 1 := by
  rw [Fm.sgn_anti, k_fe a l hl]
  rfl
set_option maxRecDepth 100000 in
set_option maxHeartbeats 4000000 in
theorem walkN (p q l : Nat) (hp : p < 4294967296) (hq : q < 4294967296) (hl : l < 4294967296) (W : World) (hT : Tab W) :
    Calls Tryd.prog 3 #[.int .u32 (p : Int), .int .u32 (q : Int), .int .u32 (l : Int)] W fun e w' => e = .returned (.bool true) ∧ Below W.heap.size W w' := by
  have m1 : p % 2048 < 2048 := Nat.mod_lt _ (by decide)
  have m2 : q % 2048 < 2048 := Nat.mod_lt _ (by decide)
  have m3 : l % 262144 < 262144 := Nat.mod_lt _ (by decide)
  have e1 : ((p : Int) % 2048) = ((p % 2048 : Nat) : Int) := by simp
  have e2 : ((q : Int) % 2048) = ((q % 2048 : Nat) : Int) := by simp
  have e3 : ((l : Int) % 262144) = ((l % 262144 : Nat) : Int) := by simp
  generalize p % 2048 = a at *
  generalize q % 2048 = b at *
  generalize l % 262144 = c at *
  have ho := or_join a c m1 m3
  have hg : a * 262144 + c < 536870912 := by omega
  have H1 : Hid (∀ w, Tab w → Calls Tryd.prog 6 #[.agg #[.bool false, .int .u32 (a : Int), .bool false, .string ⟨#[]⟩], .agg #[.bool false, .int .u32 (b : Int), .bool false, .string ⟨#[]⟩]] w fun e w' => e = .returned (.int .i64 (Fm.sgn a b)) ∧ Below w.heap.size w w') := fun w hT => cmp_at false a false false b false _ m1 m2 (k_std a b) w hT
  have H2 : Hid (∀ w, Tab w → Calls Tryd.prog 6 #[.agg #[.bool false, .int .u32 (a : Int), .bool false, .string ⟨#[]⟩], .agg #[.bool true, .int .u32 ((a * 262144 + c : Nat) : Int), .bool false, .string ⟨#[]⟩]] w fun e w' => e = .returned (.int .i64 (-1)) ∧ Below w.heap.size w w') := fun w hT => cmp_at false a false true (a * 262144 + c) false _ m1 hg (k_fe a c m3) w hT
  have H3 : Hid (∀ w, Tab w → Calls Tryd.prog 6 #[.agg #[.bool false, .int .u32 (a : Int), .bool true, .string ⟨#[]⟩], .agg #[.bool true, .int .u32 ((a * 262144 + c : Nat) : Int), .bool false, .string ⟨#[]⟩]] w fun e w' => e = .returned (.int .i64 (-1)) ∧ Below w.heap.size w w') := fun w hT => cmp_at false a true true (a * 262144 + c) false _ m1 hg (k_re a c m3) w hT
  have H4 : Hid (∀ w, Tab w → Calls Tryd.prog 6 #[.agg #[.bool false, .int .u32 (a : Int), .bool false, .string ⟨#[]⟩], .agg #[.bool false, .int .u32 (a : Int), .bool true, .string ⟨#[]⟩]] w fun e w' => e = .returned (.int .i64 (-1)) ∧ Below w.heap.size w w') := fun w hT => cmp_at false a false false a true _ m1 m1 (k_fr a) w hT
  have H5 : Hid (∀ w, Tab w → Calls Tryd.prog 6 #[.agg #[.bool true, .int .u32 ((a * 262144 + c : Nat) : Int), .bool false, .string ⟨#[]⟩], .agg #[.bool false, .int .u32 (a : Int), .bool false, .string ⟨#[]⟩]] w fun e w' => e = .returned (.int .i64 1) ∧ Below w.heap.size w w') := fun w hT => cmp_at true (a * 262144 + c) false false a false _ hg m1 (k_ef a c m3) w hT
  obtain ⟨g, hgg⟩ : ∃ g, g = a * 262144 + c := ⟨_, rfl⟩
  rw [← hgg] at ho hg H2 H3 H5
  clear hgg
  have want : (a < b ∧ Fm.sgn a b = -1) ∨ (¬ a < b ∧ b < a ∧ Fm.sgn a b = 1) ∨ (¬ a < b ∧ ¬ b < a ∧ Fm.sgn a b = 0) := by
    unfold Fm.sgn
    by_cases h : a < b
    · exact Or.inl ⟨h, by rw [if_pos h]⟩
    · by_cases h2 : b < a
      · exact Or.inr (Or.inl ⟨h, h2, by rw [if_neg h, if_pos h2]⟩)
      · exact Or.inr (Or.inr ⟨h, h2, by rw [if_neg h, if_neg h2]⟩)
  generalize Fm.sgn a b = K at *
  rcases want with ⟨k1, rfl⟩ | ⟨k1, k2, rfl⟩ | ⟨k1, k2, rfl⟩
  all_goals
    go_enter Tryd.func3, Tryd.ntmps3
    go_wp2_with fail
    refine (known3_any _ hT).mono ?_
    rintro e w1 ⟨rfl, hb1⟩
    have HT : Hid (Tab w1) := hT.below hb1
    have hA : Hid (Below W.heap.size W w1) := hb1
    clear hb1
    go_wp2_with fail
    have Lf : Hid (Lies ((((w1.alloc (Obj.cells #[.bool false, .int .u32 (a : Int), .bool false, .string ⟨#[]⟩] 25)).alloc (Obj.cells #[.bool false, .int .u32 (b : Int), .bool false, .string ⟨#[]⟩] 25)).alloc (Obj.cells #[.bool true, .int .u32 (g : Int), .bool false, .string ⟨#[]⟩] 25)).alloc (Obj.cells #[.bool false, .int .u32 (a : Int), .bool true, .string ⟨#[]⟩] 25)) w1.heap.size false a false ⟨#[]⟩) := (((Lies.new w1 false a false ⟨#[]⟩).alloc _).alloc _).alloc _
    have Lg : Hid (Lies ((((w1.alloc (Obj.cells #[.bool false, .int .u32 (a : Int), .bool false, .string ⟨#[]⟩] 25)).alloc (Obj.cells #[.bool false, .int .u32 (b : Int), .bool false, .string ⟨#[]⟩] 25)).alloc (Obj.cells #[.bool true, .int .u32 (g : Int), .bool false, .string ⟨#[]⟩] 25)).alloc (Obj.cells #[.bool false, .int .u32 (a : Int), .bool true, .string ⟨#[]⟩] 25)) (w1.heap.size + 1) false b false ⟨#[]⟩) := ((Lies.new1 w1 _ false b false ⟨#[]⟩).alloc _).alloc _
    have Le : Hid (Lies ((((w1.alloc (Obj.cells #[.bool false, .int .u32 (a : Int), .bool false, .string ⟨#[]⟩] 25)).alloc (Obj.cells #[.bool false, .int .u32 (b : Int), .bool false, .string ⟨#[]⟩] 25)).alloc (Obj.cells #[.bool true, .int .u32 (g : Int), .bool false, .string ⟨#[]⟩] 25)).alloc (Obj.cells #[.bool false, .int .u32 (a : Int), .bool true, .string ⟨#[]⟩] 25)) (w1.heap.size + 1 + 1) true g false ⟨#[]⟩) := (Lies.new2 w1 _ _ true g false ⟨#[]⟩).alloc _
    have Lr : Hid (Lies ((((w1.alloc (Obj.cells #[.bool false, .int .u32 (a : Int), .bool false, .string ⟨#[]⟩] 25)).alloc (Obj.cells #[.bool false, .int .u32 (b : Int), .bool false, .string ⟨#[]⟩] 25)).alloc (Obj.cells #[.bool true, .int .u32 (g : Int), .bool false, .string ⟨#[]⟩] 25)).alloc (Obj.cells #[.bool false, .int .u32 (a : Int), .bool true, .string ⟨#[]⟩] 25)) (w1.heap.size + 1 + 1 + 1) false a true ⟨#[]⟩) := Lies.new3 w1 _ _ _ false a true ⟨#[]⟩
    replace HT : Hid (Tab ((((w1.alloc (Obj.cells #[.bool false, .int .u32 (a : Int), .bool false, .string ⟨#[]⟩] 25)).alloc (Obj.cells #[.bool false, .int .u32 (b : Int), .bool false, .string ⟨#[]⟩] 25)).alloc (Obj.cells #[.bool true, .int .u32 (g : Int), .bool false, .string ⟨#[]⟩] 25)).alloc (Obj.cells #[.bool false, .int .u32 (a : Int), .bool true, .string ⟨#[]⟩] 25))) := (((HT.out.alloc _).alloc _).alloc _).alloc _
    replace hA : Hid (Below W.heap.size W ((((w1.alloc (Obj.cells #[.bool false, .int .u32 (a : Int), .bool false, .string ⟨#[]⟩] 25)).alloc (Obj.cells #[.bool false, .int .u32 (b : Int), .bool false, .string ⟨#[]⟩] 25)).alloc (Obj.cells #[.bool true, .int .u32 (g : Int), .bool false, .string ⟨#[]⟩] 25)).alloc (Obj.cells #[.bool false, .int .u32 (a : Int), .bool true, .string ⟨#[]⟩] 25))) := (((hA.out.alloc hA.out.size _).alloc (Nat.le_trans hA.out.size (by simp)) _).alloc (Nat.le_trans hA.out.size (by simp; omega)) _).alloc (Nat.le_trans hA.out.size (by simp; omega)) _
    generalize (((w1.alloc (Obj.cells #[.bool false, .int .u32 (a : Int), .bool false, .string ⟨#[]⟩] 25)).alloc (Obj.cells #[.bool false, .int .u32 (b : Int), .bool false, .string ⟨#[]⟩] 25)).alloc (Obj.cells #[.bool true, .int .u32 (g : Int), .bool false, .string ⟨#[]⟩] 25)).alloc (Obj.cells #[.bool false, .int .u32 (a : Int), .bool true, .string ⟨#[]⟩] 25) = w2 at *
    have Lf0 := Lf.out.c0
    have Lf1 := Lf.out.c1
    have Lf2 := Lf.out.c2
    have Lf3 := Lf.out.c3
    have Le0 := Le.out.c0
    have Le1 := Le.out.c1
    have Le2 := Le.out.c2
    have Le3 := Le.out.c3
    go_wp2_with (first | (go_at_call_of 6 (#[Value.agg #[.bool false, .int .u32 (a : Int), .bool false, .string ⟨#[]⟩], Value.agg #[.bool false, .int .u32 (b : Int), .bool false, .string ⟨#[]⟩] ]); refine (H1.out _ HT.out).mono ?_; rintro e w' ⟨rfl, hb'⟩; replace Lf : Hid (Lies _ _ _ _ _ _) := (by first | exact Lies.on Lf.out hb' | exact Lies.on (Lies.alloc Lf.out _) hb'); replace Le : Hid (Lies _ _ _ _ _ _) := (by first | exact Lies.on Le.out hb' | exact Lies.on (Lies.alloc Le.out _) hb'); replace Lr : Hid (Lies _ _ _ _ _ _) := (by first | exact Lies.on Lr.out hb' | exact Lies.on (Lies.alloc Lr.out _) hb'); replace HT : Hid (Tab _) := (by first | exact HT.out.below hb' | exact (HT.out.alloc _).below hb'); replace hA : Hid (Below W.heap.size W _) := (by first | exact below_join hA.out hb' | exact below_join (hA.out.alloc hA.out.size _) hb'); (try clear Lf0 Lf1 Lf2 Lf3 LfL); have Lf0 := Lf.out.c0; have Lf1 := Lf.out.c1; have Lf2 := Lf.out.c2; have Lf3 := Lf.out.c3; have LfL := Lf.out.lt; (try clear Le0 Le1 Le2 Le3 LeL); have Le0 := Le.out.c0; have Le1 := Le.out.c1; have Le2 := Le.out.c2; have Le3 := Le.out.c3; have LeL := Le.out.lt; (try clear Lr0 Lr1 Lr2 Lr3 LrL); have Lr0 := Lr.out.c0; have Lr1 := Lr.out.c1; have Lr2 := Lr.out.c2; have Lr3 := Lr.out.c3; have LrL := Lr.out.lt; clear hb') | (go_at_call_of 6 (#[Value.agg #[.bool false, .int .u32 (a : Int), .bool false, .string ⟨#[]⟩], Value.agg #[.bool true, .int .u32 (g : Int), .bool false, .string ⟨#[]⟩] ]); refine (H2.out _ HT.out).mono ?_; rintro e w' ⟨rfl, hb'⟩; replace Lf : Hid (Lies _ _ _ _ _ _) := (by first | exact Lies.on Lf.out hb' | exact Lies.on (Lies.alloc Lf.out _) hb'); replace Le : Hid (Lies _ _ _ _ _ _) := (by first | exact Lies.on Le.out hb' | exact Lies.on (Lies.alloc Le.out _) hb'); replace Lr : Hid (Lies _ _ _ _ _ _) := (by first | exact Lies.on Lr.out hb' | exact Lies.on (Lies.alloc Lr.out _) hb'); replace HT : Hid (Tab _) := (by first | exact HT.out.below hb' | exact (HT.out.alloc _).below hb'); replace hA : Hid (Below W.heap.size W _) := (by first | exact below_join hA.out hb' | exact below_join (hA.out.alloc hA.out.size _) hb'); (try clear Lf0 Lf1 Lf2 Lf3 LfL); have Lf0 := Lf.out.c0; have Lf1 := Lf.out.c1; have Lf2 := Lf.out.c2; have Lf3 := Lf.out.c3; have LfL := Lf.out.lt; (try clear Le0 Le1 Le2 Le3 LeL); have Le0 := Le.out.c0; have Le1 := Le.out.c1; have Le2 := Le.out.c2; have Le3 := Le.out.c3; have LeL := Le.out.lt; (try clear Lr0 Lr1 Lr2 Lr3 LrL); have Lr0 := Lr.out.c0; have Lr1 := Lr.out.c1; have Lr2 := Lr.out.c2; have Lr3 := Lr.out.c3; have LrL := Lr.out.lt; clear hb') | (go_at_call_of 6 (#[Value.agg #[.bool false, .int .u32 (a : Int), .bool true, .string ⟨#[]⟩], Value.agg #[.bool true, .int .u32 (g : Int), .bool false, .string ⟨#[]⟩] ]); refine (H3.out _ HT.out).mono ?_; rintro e w' ⟨rfl, hb'⟩; replace Lf : Hid (Lies _ _ _ _ _ _) := (by first | exact Lies.on Lf.out hb' | exact Lies.on (Lies.alloc Lf.out _) hb'); replace Le : Hid (Lies _ _ _ _ _ _) := (by first | exact Lies.on Le.out hb' | exact Lies.on (Lies.alloc Le.out _) hb'); replace Lr : Hid (Lies _ _ _ _ _ _) := (by first | exact Lies.on Lr.out hb' | exact Lies.on (Lies.alloc Lr.out _) hb'); replace HT : Hid (Tab _) := (by first | exact HT.out.below hb' | exact (HT.out.alloc _).below hb'); replace hA : Hid (Below W.heap.size W _) := (by first | exact below_join hA.out hb' | exact below_join (hA.out.alloc hA.out.size _) hb'); (try clear Lf0 Lf1 Lf2 Lf3 LfL); have Lf0 := Lf.out.c0; have Lf1 := Lf.out.c1; have Lf2 := Lf.out.c2; have Lf3 := Lf.out.c3; have LfL := Lf.out.lt; (try clear Le0 Le1 Le2 Le3 LeL); have Le0 := Le.out.c0; have Le1 := Le.out.c1; have Le2 := Le.out.c2; have Le3 := Le.out.c3; have LeL := Le.out.lt; (try clear Lr0 Lr1 Lr2 Lr3 LrL); have Lr0 := Lr.out.c0; have Lr1 := Lr.out.c1; have Lr2 := Lr.out.c2; have Lr3 := Lr.out.c3; have LrL := Lr.out.lt; clear hb') | (go_at_call_of 6 (#[Value.agg #[.bool false, .int .u32 (a : Int), .bool false, .string ⟨#[]⟩], Value.agg #[.bool false, .int .u32 (a : Int), .bool true, .string ⟨#[]⟩] ]); refine (H4.out _ HT.out).mono ?_; rintro e w' ⟨rfl, hb'⟩; replace Lf : Hid (Lies _ _ _ _ _ _) := (by first | exact Lies.on Lf.out hb' | exact Lies.on (Lies.alloc Lf.out _) hb'); replace Le : Hid (Lies _ _ _ _ _ _) := (by first | exact Lies.on Le.out hb' | exact Lies.on (Lies.alloc Le.out _) hb'); replace Lr : Hid (Lies _ _ _ _ _ _) := (by first | exact Lies.on Lr.out hb' | exact Lies.on (Lies.alloc Lr.out _) hb'); replace HT : Hid (Tab _) := (by first | exact HT.out.below hb' | exact (HT.out.alloc _).below hb'); replace hA : Hid (Below W.heap.size W _) := (by first | exact below_join hA.out hb' | exact below_join (hA.out.alloc hA.out.size _) hb'); (try clear Lf0 Lf1 Lf2 Lf3 LfL); have Lf0 := Lf.out.c0; have Lf1 := Lf.out.c1; have Lf2 := Lf.out.c2; have Lf3 := Lf.out.c3; have LfL := Lf.out.lt; (try clear Le0 Le1 Le2 Le3 LeL); have Le0 := Le.out.c0; have Le1 := Le.out.c1; have Le2 := Le.out.c2; have Le3 := Le.out.c3; have LeL := Le.out.lt; (try clear Lr0 Lr1 Lr2 Lr3 LrL); have Lr0 := Lr.out.c0; have Lr1 := Lr.out.c1; have Lr2 := Lr.out.c2; have Lr3 := Lr.out.c3; have LrL := Lr.out.lt; clear hb') | (go_at_call_of 6 (#[Value.agg #[.bool true, .int .u32 (g : Int), .bool false, .string ⟨#[]⟩], Value.agg #[.bool false, .int .u32 (a : Int), .bool false, .string ⟨#[]⟩] ]); refine (H5.out _ HT.out).mono ?_; rintro e w' ⟨rfl, hb'⟩; replace Lf : Hid (Lies _ _ _ _ _ _) := (by first | exact Lies.on Lf.out hb' | exact Lies.on (Lies.alloc Lf.out _) hb'); replace Le : Hid (Lies _ _ _ _ _ _) := (by first | exact Lies.on Le.out hb' | exact Lies.on (Lies.alloc Le.out _) hb'); replace Lr : Hid (Lies _ _ _ _ _ _) := (by first | exact Lies.on Lr.out hb' | exact Lies.on (Lies.alloc Lr.out _) hb'); replace HT : Hid (Tab _) := (by first | exact HT.out.below hb' | exact (HT.out.alloc _).below hb'); replace hA : Hid (Below W.heap.size W _) := (by first | exact below_join hA.out hb' | exact below_join (hA.out.alloc hA.out.size _) hb'); (try clear Lf0 Lf1 Lf2 Lf3 LfL); have Lf0 := Lf.out.c0; have Lf1 := Lf.out.c1; have Lf2 := Lf.out.c2; have Lf3 := Lf.out.c3; have LfL := Lf.out.lt; (try clear Le0 Le1 Le2 Le3 LeL); have Le0 := Le.out.c0; have Le1 := Le.out.c1; have Le2 := Le.out.c2; have Le3 := Le.out.c3; have LeL := Le.out.lt; (try clear Lr0 Lr1 Lr2 Lr3 LrL); have Lr0 := Lr.out.c0; have Lr1 := Lr.out.c1; have Lr2 := Lr.out.c2; have Lr3 := Lr.out.c3; have LrL := Lr.out.lt; clear hb'))
    go_ret
    exact ⟨rfl, hA.out⟩
theorem walk (a0 : Int) (w0 : (Lit.int .u32 a0).wf = true) (a1 : Int) (w1 : (Lit.int .u32 a1).wf = true) (a2 : Int) (w2 : (Lit.int .u32 a2).wf = true) (W : World) (hT : Tab W) :
    Calls Tryd.prog 3 #[.int .u32 a0, .int .u32 a1, .int .u32 a2] W fun e w' => e = .returned (.bool true) ∧ Below W.heap.size W w' := by
  obtain ⟨m0, rfl, h0⟩ := u32_nat w0
  obtain ⟨m1, rfl, h1⟩ := u32_nat w1
  obtain ⟨m2, rfl, h2⟩ := u32_nat w2
  exact walkN m0 m1 m2 h0 h1 h2 W hT
theorem own : ownKnob Tryd.prog.godebug = none := by kernel_rfl
theorem contract (H : Type) (enc : TypeId × Value → H) (W : World) (base : Nat) (args : Array Value) (ds gs : List (DataW H)) (before : List MemPlace)
    (hval0 : ∀ (j : Nat) t v, Tryd.f3.params[j]? = some t → args[j]? = some v → Value.okWide Tryd.prog W .any base t v)
    (hW : DataW.Whole enc Tryd.prog Tryd.f3.params.toList Rows.frameLessSpec.vars false W args.toList ds gs before) (hL : laidMetH Tryd.prog Rows.frameLessRow.laid W) :
    Calls Tryd.prog 3 args W fun e W' => ∃ v, e = .returned v ∧ Rows.frameLessSpec.post enc Tryd.prog Tryd.f3 false true false false W args v W' := by
  have hval : ∀ (j : Nat) t v, Tryd.f3.params[j]? = some t → args[j]? = some v → Value.okWide Tryd.prog W .any base t v := hval0
  have hW' := hW
  obtain ⟨p, q, hA0, hV, rfl, hfz, hnd⟩ := hW
  have hA : DataW.TrodAll enc Tryd.prog W 0 (fun _ => true) true Tryd.f3.params.toList args.toList ds p := hA0
  rw [Tryd.params3] at hA hval
  obtain ⟨v0, vs0, d0, ds0, p0, q0, hargs, rfl, rfl, h0, rr0⟩ := trodAll_cons hA
  obtain ⟨v1, vs1, d1, ds1, p1, q1, rfl, rfl, rfl, h1, rr1⟩ := trodAll_cons rr0
  obtain ⟨v2, vs2, d2, ds2, p2, q2, rfl, rfl, rfl, h2, rr2⟩ := trodAll_cons rr1
  obtain ⟨rfl, rfl, rfl⟩ := trodAll_nil rr2
  obtain rfl : args = #[v0, v1, v2] := by cases args; simp_all
  obtain ⟨rfl, rfl⟩ := trodVars_none hV
  obtain ⟨a0, rfl, rfl, rfl, w0⟩ := open_int Tryd.underlying22 (hval 0 22 v0 rfl rfl) h0
  obtain ⟨a1, rfl, rfl, rfl, w1⟩ := open_int Tryd.underlying22 (hval 1 22 v1 rfl rfl) h1
  obtain ⟨a2, rfl, rfl, rfl, w2⟩ := open_int Tryd.underlying22 (hval 2 22 v2 rfl rfl) h2
  clear hA0 hval0
  refine (walk a0 w0 a1 w1 a2 w2 W (tab_of_laid hL)).mono fun e W' ⟨he, bel⟩ => ?_
  subst he
  exact ⟨_, rfl, _, _, _, [], _, [], hW', trodAll_mk1 (shut_bool Tryd.underlying4 _), (trodAll_cons_mk (shut_int Tryd.underlying22 w0) (trodAll_cons_mk (shut_int Tryd.underlying22 w1) (trodAll_cons_mk (shut_int Tryd.underlying22 w2) trodAll_mk0))), rfl, bel.frame _, fun h => by cases h⟩
theorem laid_met (os : Os) : laidMet Tryd.prog Rows.frameLessRow.laid ((tabWorld os).forCall (fun _ _ => 0) ⟨#[], #[.int .u32 0, .int .u32 0, .int .u32 0], []⟩).memory :=
  laidMet_of_run' 8 (by kernel_rfl) (by kernel_rfl)
theorem reads (os : Os) {H : Type} (enc : TypeId × Value → H) : ∃ places, DataW.whole enc Tryd.prog ((tabWorld os).forCall (fun _ _ => 0) ⟨#[], #[.int .u32 0, .int .u32 0, .int .u32 0], []⟩).memory Tryd.f3.params.toList Rows.frameLessSpec.vars false #[Value.int .u32 0, .int .u32 0, .int .u32 0].toList 8 = some ([.lit (.int .u32 0), .lit (.int .u32 0), .lit (.int .u32 0)], [], places) :=
  ⟨[], by kernel_rfl⟩
set_option maxRecDepth 100000 in
theorem lifted (os : Os) (started : os.Started) (H : Type) (enc : TypeId × Value → H) (F : Stop.Interp) :
    ReturnsInHanded {} Tryd.checked os 3 .any ((OpenSpec.ofChange Rows.frameLessSpec).preRow enc Tryd.prog Tryd.f3 Rows.frameLessRow.domain false Rows.frameLessRow.laid) (((OpenSpec.ofChange Rows.frameLessSpec).at F).post enc Tryd.prog Tryd.f3 false true false false) := by
  obtain ⟨places, hx⟩ := reads os enc
  refine returnsInHanded_of_row (C := Tryd.checked) (s := OpenSpec.ofChange Rows.frameLessSpec) own started (by kernel_rfl) Tryd.func3
    (witness_row_at (enc := enc) (C := Tryd.checked) false (tabWorld os) #[.int .u32 0, .int .u32 0, .int .u32 0] rfl (by kernel_rfl) (by kernel_rfl) (by kernel_rfl)
      (OpenSpec.preRow_of_cond 8 hx (by kernel_rfl) (fun k hk => by cases hk) (by kernel_rfl) (laid_met os))) ?_
  intro W base args ds gs before hval hW _ _ _ hL _ _
  exact contract H enc W base args ds gs before hval hW hL
theorem said : Rows.FrameLessSaid :=
  OpenClaim.holds_of_cond 3 Tryd.f3 rfl rfl rfl rfl rfl rfl rfl ⟨rfl, rfl, rfl, rfl, rfl⟩ rfl rfl rfl rfl rfl (by kernel_rfl) Tryd.func3 (by kernel_rfl)
    (of_decide_eq_true (by kernel_rfl)) (by unfold Func.isWrapper; first | (rw [if_pos (by decide +kernel)]; kernel_rfl) | (rw [if_neg (by decide +kernel)]; exact ⟨rfl, rfl⟩))
    (fun os started H enc _ F => by rw [OpenClaim.pre_eq_preRow]; exact lifted os started H enc F)
theorem plain (f : FuncId) (fn : Func) (hf : Tryd.pinned.checked.prog.funcNamed "ostinato/ostinatolaw3.FrameLess" = some f) (hfn : Tryd.pinned.checked.prog.funcs[f]? = some fn) :
    false = Tryd.pinned.checked.prog.looks [] ∧ ∀ (j : Nat) t, fn.params[j]? = some t → Tryd.pinned.checked.prog.wantsStandIn t = false := by
  obtain rfl : f = 3 := Option.some.inj ((show Tryd.prog.funcNamed "ostinato/ostinatolaw3.FrameLess" = some 3 by kernel_rfl).symm.trans hf) |>.symm
  obtain rfl : fn = Tryd.f3 := (Option.some.inj (Tryd.func3.symm.trans hfn)).symm
  refine ⟨by kernel_rfl, fun j t ht => ?_⟩
  rw [Tryd.params3] at ht
  have hm : t ∈ [22, 22, 22] := by simpa using Array.mem_of_getElem? ht
  have hall : ([22, 22, 22].all fun u => !Tryd.prog.wantsStandIn u) = true := by kernel_rfl
  exact (show Tryd.prog.wantsStandIn t = false by simpa using List.all_eq_true.1 hall t hm)
end Go.Proofs.YtfnbkehabadpmabDoor.frameLess
namespace Go.Proofs.YtfnbkehabadpmabDoor
/-- The statement. -/
theorem frameLess_holds : Rows.FrameLessCardSaid :=
  Claim7.holds_tied_plain_at .later [] _ _ _ _ frameLess.said (fun _ h => by cases h) (by kernel_rfl) (fun _ h => by cases h) frameLess_row_tie rfl ⟨rfl, rfl⟩ (by kernel_rfl) rfl frameLess.plain (by kernel_rfl)
#print axioms frameLess_holds
end Go.Proofs.YtfnbkehabadpmabDoor
