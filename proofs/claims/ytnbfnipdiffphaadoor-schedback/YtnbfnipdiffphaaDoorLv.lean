/- Package check, over the landed code: the parts of Check's order, and Check. -/
import Derived.Test.YtnbfnipdiffphaaDoorLu
import Derived.Test.YtnbfnipdiffphaaDoorLj
namespace Go.Proofs.YtnbfnipdiffphaaDoor
open Go.RowKit Go.WideShapes
set_option linter.unusedVariables false
theorem Lq.scan_nothing {f : Nat → Int} {n k : Nat} (h : (Lq.scan f n k).2 = 0) : Lq.scan f n k = (0, 0) := Lq.scan_none (Lq.scan_zero h)
theorem Lq.orElse_assoc (a b c : Int × Int) : Lq.orElse (Lq.orElse a b) c = Lq.orElse a (Lq.orElse b c) := by
  unfold Lq.orElse
  by_cases h : a.2 = 0
  · rw [if_pos h, if_pos h]
  · rw [if_neg h, if_neg h, if_neg h]
theorem Lq.check_ord {m : Mx.M} (hi : Mx.is m = true) (hl : ¬ m.length < Lq.step m) : Lq.check m = Lq.orElse (Lq.scan (Lq.eMaster m) m.masters.length 0) (Lq.orElse (Lq.scan (Lq.eOwner m) m.messages.length 0) (Lq.orElse (Lq.scan (Lq.eRank m) m.masters.length 0) (Lq.orElse (Lq.scan (Lq.eFind m) m.messages.length 0) (Lq.scan (Lq.eWin m) m.windows.length 0)))) := by
  unfold Lq.check Lq.twice
  rw [hi, if_neg (by simp), if_neg hl, Lq.orElse_assoc]

set_option maxRecDepth 100000 in
set_option maxHeartbeats 4000000 in
theorem ck_part1 (w : World) (m : Mx.M) (a : Ma) (hm : MIn w m a) (hi : Mx.is m = true) (R : Int × Int) (hR : Lq.scan (Lq.eMaster m) m.masters.length 0 = R) : Calls Tryd.prog 43 #[mV m a] w fun e w' => e = .returned (.tuple #[.int .i64 R.1, .int .i64 R.2]) ∧ Below w.heap.size w w' := by
  have HX : Hid (Bx w (w.alloc (.cells (mCs m a) 27)) w.heap.size m a) := Bx.mk' hm
  have hl : m.masters.length ≤ 1000 := (Mx.small_is hi).a
  have c8 := HX.out.row.mat.2.2.2.2.2.2.2.2.1
  have he : Lq.scan (Lq.pr (Lq.eMaster m) Lq.none2) m.masters.length 0 = R := (Lq.scan_same (fun j _ hj => Lq.pr_none2 _ j)).trans hR
  have HC := ck_first1 (w.alloc (.cells (mCs m a) 27)) m.masters.length hl w.heap.size (Lq.eMaster m) Lq.none2 (fun w1 k hb hk => ck_eMaster _ _ _ m a k (HX.out.on hb) hi hk) (fun w1 j k hb hj hk => (ck_noPair w1 _ _).mono fun e w' ⟨h1, h2⟩ => by rw [h1, h2]; exact ⟨rfl, Below.refl _ _⟩)
  rw [he] at HC
  have HC2 : Hid (Calls Tryd.prog 62 #[.int .i64 (m.masters.length : Int), .func (.func 63) #[] #[Ob.ptr w.heap.size], .func (.func 66) #[] #[]] (w.alloc (.cells (mCs m a) 27)) fun e w' => e = .returned (.tuple #[.int .i64 R.1, .int .i64 R.2]) ∧ Below (w.alloc (.cells (mCs m a) 27)).heap.size (w.alloc (.cells (mCs m a) 27)) w') := HC
  have HB : Hid (Below w.heap.size w (w.alloc (.cells (mCs m a) 27))) := HX.out.below
  show Calls _ _ #[.agg (mCs m a)] _ _
  generalize mCs m a = cs at HC2 HB c8 ⊢
  clear HX hm hi he hR HC
  generalize m.masters.length = L at *
  obtain ⟨R1, R2⟩ := R
  have hmf : ∀ (fn : Fn) (first cap : Array Value) (w : World), (Instr.makeFunc fn first cap).run Tryd.prog w = .ok (.func fn first cap) w := fun _ _ _ _ => rfl
  go_enter Tryd.func43, Tryd.ntmps43
  go_wp2_with fail
  refine HC2.out.mono ?_
  rintro e w1 ⟨rfl, hb⟩
  have HB1 : Hid (Below w.heap.size w w1) := HB.out.trans (hb.mono HB.out.size)
  clear hb HC2 HB c8
  go_wp2
  go_ret2
  exact ⟨rfl, HB1.out⟩

set_option maxRecDepth 100000 in
set_option maxHeartbeats 4000000 in
theorem ck_part2 (w : World) (m : Mx.M) (a : Ma) (hm : MIn w m a) (hi : Mx.is m = true) (R : Int × Int) (hR : Lq.scan (Lq.eOwner m) m.messages.length 0 = R) : Calls Tryd.prog 44 #[mV m a] w fun e w' => e = .returned (.tuple #[.int .i64 R.1, .int .i64 R.2]) ∧ Below w.heap.size w w' := by
  have HX : Hid (Bx w (w.alloc (.cells (mCs m a) 27)) w.heap.size m a) := Bx.mk' hm
  have hl : m.messages.length ≤ 1000 := (Mx.small_is hi).b
  have c8 := HX.out.row.mat.2.2.2.2.2.2.2.2.2.1
  have he : Lq.scan (Lq.pr (Lq.eOwner m) Lq.none2) m.messages.length 0 = R := (Lq.scan_same (fun j _ hj => Lq.pr_none2 _ j)).trans hR
  have HC := ck_first2 (w.alloc (.cells (mCs m a) 27)) m.messages.length hl w.heap.size (Lq.eOwner m) Lq.none2 (fun w1 k hb hk => ck_eOwner _ _ _ m a k (HX.out.on hb) hi hk) (fun w1 j k hb hj hk => (ck_noPair w1 _ _).mono fun e w' ⟨h1, h2⟩ => by rw [h1, h2]; exact ⟨rfl, Below.refl _ _⟩)
  rw [he] at HC
  have HC2 : Hid (Calls Tryd.prog 62 #[.int .i64 (m.messages.length : Int), .func (.func 67) #[] #[Ob.ptr w.heap.size], .func (.func 66) #[] #[]] (w.alloc (.cells (mCs m a) 27)) fun e w' => e = .returned (.tuple #[.int .i64 R.1, .int .i64 R.2]) ∧ Below (w.alloc (.cells (mCs m a) 27)).heap.size (w.alloc (.cells (mCs m a) 27)) w') := HC
  have HB : Hid (Below w.heap.size w (w.alloc (.cells (mCs m a) 27))) := HX.out.below
  show Calls _ _ #[.agg (mCs m a)] _ _
  generalize mCs m a = cs at HC2 HB c8 ⊢
  clear HX hm hi he hR HC
  generalize m.messages.length = L at *
  obtain ⟨R1, R2⟩ := R
  have hmf : ∀ (fn : Fn) (first cap : Array Value) (w : World), (Instr.makeFunc fn first cap).run Tryd.prog w = .ok (.func fn first cap) w := fun _ _ _ _ => rfl
  go_enter Tryd.func44, Tryd.ntmps44
  go_wp2_with fail
  refine HC2.out.mono ?_
  rintro e w1 ⟨rfl, hb⟩
  have HB1 : Hid (Below w.heap.size w w1) := HB.out.trans (hb.mono HB.out.size)
  clear hb HC2 HB c8
  go_wp2
  go_ret2
  exact ⟨rfl, HB1.out⟩

set_option maxRecDepth 100000 in
set_option maxHeartbeats 4000000 in
theorem ck_part3 (w : World) (m : Mx.M) (a : Ma) (hm : MIn w m a) (hi : Mx.is m = true) (R : Int × Int) (hR : Lq.scan (Lq.eRank m) m.masters.length 0 = R) : Calls Tryd.prog 45 #[mV m a] w fun e w' => e = .returned (.tuple #[.int .i64 R.1, .int .i64 R.2]) ∧ Below w.heap.size w w' := by
  have HX : Hid (Bx w (w.alloc (.cells (mCs m a) 27)) w.heap.size m a) := Bx.mk' hm
  have hl : m.masters.length ≤ 1000 := (Mx.small_is hi).a
  have c8 := HX.out.row.mat.2.2.2.2.2.2.2.2.1
  have he : Lq.scan (Lq.pr (Lq.none1) (fun j k => if Lq.twM m j k then 142 else 0)) m.masters.length 0 = R := (Lq.scan_same (fun j _ hj => Lq.pr_rank (by omega))).trans hR
  have HC := ck_first3 (w.alloc (.cells (mCs m a) 27)) m.masters.length hl w.heap.size (Lq.none1) (fun j k => if Lq.twM m j k then 142 else 0) (fun w1 k hb hk => (ck_noRule w1 _).mono fun e w' ⟨h1, h2⟩ => by rw [h1, h2]; exact ⟨rfl, Below.refl _ _⟩) (fun w1 j k hb hj hk => ck_twM _ _ _ m a j k (HX.out.on hb) hi hj hk)
  rw [he] at HC
  have HC2 : Hid (Calls Tryd.prog 62 #[.int .i64 (m.masters.length : Int), .func (.func 68) #[] #[], .func (.func 69) #[] #[Ob.ptr w.heap.size]] (w.alloc (.cells (mCs m a) 27)) fun e w' => e = .returned (.tuple #[.int .i64 R.1, .int .i64 R.2]) ∧ Below (w.alloc (.cells (mCs m a) 27)).heap.size (w.alloc (.cells (mCs m a) 27)) w') := HC
  have HB : Hid (Below w.heap.size w (w.alloc (.cells (mCs m a) 27))) := HX.out.below
  show Calls _ _ #[.agg (mCs m a)] _ _
  generalize mCs m a = cs at HC2 HB c8 ⊢
  clear HX hm hi he hR HC
  generalize m.masters.length = L at *
  obtain ⟨R1, R2⟩ := R
  have hmf : ∀ (fn : Fn) (first cap : Array Value) (w : World), (Instr.makeFunc fn first cap).run Tryd.prog w = .ok (.func fn first cap) w := fun _ _ _ _ => rfl
  go_enter Tryd.func45, Tryd.ntmps45
  go_wp2_with fail
  refine HC2.out.mono ?_
  rintro e w1 ⟨rfl, hb⟩
  have HB1 : Hid (Below w.heap.size w w1) := HB.out.trans (hb.mono HB.out.size)
  clear hb HC2 HB c8
  go_wp2
  go_ret2
  exact ⟨rfl, HB1.out⟩

set_option maxRecDepth 100000 in
set_option maxHeartbeats 4000000 in
theorem ck_part4 (w : World) (m : Mx.M) (a : Ma) (hm : MIn w m a) (hi : Mx.is m = true) (R : Int × Int) (hR : Lq.scan (Lq.eFind m) m.messages.length 0 = R) : Calls Tryd.prog 46 #[mV m a] w fun e w' => e = .returned (.tuple #[.int .i64 R.1, .int .i64 R.2]) ∧ Below w.heap.size w w' := by
  have HX : Hid (Bx w (w.alloc (.cells (mCs m a) 27)) w.heap.size m a) := Bx.mk' hm
  have hl : m.messages.length ≤ 1000 := (Mx.small_is hi).b
  have c8 := HX.out.row.mat.2.2.2.2.2.2.2.2.2.1
  have he : Lq.scan (Lq.pr (Lq.beatI m) (fun j k => if Lq.twI m j k then 142 else 0)) m.messages.length 0 = R := (Lq.scan_same (fun j _ hj => Lq.pr_find hi (by omega))).trans hR
  have HC := ck_first4 (w.alloc (.cells (mCs m a) 27)) m.messages.length hl w.heap.size (Lq.beatI m) (fun j k => if Lq.twI m j k then 142 else 0) (fun w1 k hb hk => ck_beat _ _ _ m a k (HX.out.on hb) hi hk) (fun w1 j k hb hj hk => ck_twI _ _ _ m a j k (HX.out.on hb) hi hj hk)
  rw [he] at HC
  have HC2 : Hid (Calls Tryd.prog 62 #[.int .i64 (m.messages.length : Int), .func (.func 70) #[] #[Ob.ptr w.heap.size], .func (.func 71) #[] #[Ob.ptr w.heap.size]] (w.alloc (.cells (mCs m a) 27)) fun e w' => e = .returned (.tuple #[.int .i64 R.1, .int .i64 R.2]) ∧ Below (w.alloc (.cells (mCs m a) 27)).heap.size (w.alloc (.cells (mCs m a) 27)) w') := HC
  have HB : Hid (Below w.heap.size w (w.alloc (.cells (mCs m a) 27))) := HX.out.below
  show Calls _ _ #[.agg (mCs m a)] _ _
  generalize mCs m a = cs at HC2 HB c8 ⊢
  clear HX hm hi he hR HC
  generalize m.messages.length = L at *
  obtain ⟨R1, R2⟩ := R
  have hmf : ∀ (fn : Fn) (first cap : Array Value) (w : World), (Instr.makeFunc fn first cap).run Tryd.prog w = .ok (.func fn first cap) w := fun _ _ _ _ => rfl
  go_enter Tryd.func46, Tryd.ntmps46
  go_wp2_with fail
  refine HC2.out.mono ?_
  rintro e w1 ⟨rfl, hb⟩
  have HB1 : Hid (Below w.heap.size w w1) := HB.out.trans (hb.mono HB.out.size)
  clear hb HC2 HB c8
  go_wp2
  go_ret2
  exact ⟨rfl, HB1.out⟩

set_option maxRecDepth 100000 in
set_option maxHeartbeats 4000000 in
theorem ck_part5 (w : World) (hT : Tab w) (m : Mx.M) (a : Ma) (hm : MIn w m a) (hi : Mx.is m = true) (R : Int × Int) (hR : Lq.scan (Lq.eWin m) m.windows.length 0 = R) : Calls Tryd.prog 47 #[mV m a] w fun e w' => e = .returned (.tuple #[.int .i64 R.1, .int .i64 R.2]) ∧ Below w.heap.size w w' := by
  have HX : Hid (Bx w (w.alloc (.cells (mCs m a) 27)) w.heap.size m a) := Bx.mk' hm
  have hl : m.windows.length ≤ 1000 := (Mx.small_is hi).c
  obtain ⟨y0, y1, y2, y3, y4, y5, y6, y7, y8, y9, y10⟩ := HX.out.row.mat
  have HC1 : Hid (Calls Tryd.prog 42 #[mV m a] (w.alloc (.cells (mCs m a) 27)) fun e w' => e = .returned (.int .i64 (Lq.step m)) ∧ Below (w.alloc (.cells (mCs m a) 27)).heap.size (w.alloc (.cells (mCs m a) 27)) w') := ck_step _ (hT.below HX.out.below) m a HX.out.mem (Mx.small_is hi) (Mx.wf_is hi)
  have hmf : ∀ (fn : Fn) (first cap : Array Value) (w : World), (Instr.makeFunc fn first cap).run Tryd.prog w = .ok (.func fn first cap) w := fun _ _ _ _ => rfl
  have HI : Hid (Mx.is m = true) := hi
  have HRe : Hid (Lq.scan (Lq.eWin m) m.windows.length 0 = R) := hR
  clear hR hi hm hT
  show Calls _ _ #[.agg (mCs m a)] _ _
  obtain ⟨R1, R2⟩ := R
  go_enter Tryd.func47, Tryd.ntmps47
  go_wp2_with fail
  refine HC1.out.mono ?_
  rintro e w1 ⟨rfl, hb⟩
  replace HX : Hid (Bx w w1 w.heap.size m a) := HX.out.on hb
  clear hb HC1 y0 y1 y2 y3 y4 y5 y6 y7 y8 y9 y10
  go_upto_region 2 with fail
  have hb0 : Below w1.heap.size w1 (w1.alloc (.cells #[.int .i64 (Lq.step m)] 3)) := (Below.refl _ _).alloc (Nat.le_refl _) _
  have hq : RowT 3 (w1.alloc (.cells #[.int .i64 (Lq.step m)] 3)) w1.heap.size #[.int .i64 (Lq.step m)] := RowT.new _ w1 _
  replace HX : Hid (Bx w (w1.alloc (.cells #[.int .i64 (Lq.step m)] 3)) w.heap.size m a) := HX.out.on hb0
  clear hb0
  generalize w1.alloc (.cells #[.int .i64 (Lq.step m)] 3) = v at HX hq ⊢
  generalize w1.heap.size = q at hq ⊢
  have he : Lq.scan (Lq.pr (Lq.own m) (fun j k => if Lq.meet m (j : Int) (k : Int) then 143 else 0)) m.windows.length 0 = (R1, R2) := (Lq.scan_same (fun j _ hj => Lq.pr_win (by omega))).trans HRe.out
  have HC := ck_first5 v m.windows.length hl w.heap.size q (Lq.own m) (fun j k => if Lq.meet m (j : Int) (k : Int) then 143 else 0) (fun w2 k hb hk => ck_own _ _ _ _ m a k (HX.out.on hb) ((hq.on hb).c 0 _ rfl) (hq.on hb).lt HI.out hk) (fun w2 j k hb hj hk => ck_meets _ _ _ m a j k (HX.out.on hb) HI.out)
  rw [he] at HC
  have HC2 : Hid (Calls Tryd.prog 62 #[.int .i64 (m.windows.length : Int), .func (.func 72) #[] #[Ob.ptr w.heap.size, Ob.ptr q], .func (.func 75) #[] #[Ob.ptr w.heap.size]] v fun e w' => e = .returned (.tuple #[.int .i64 R1, .int .i64 R2]) ∧ Below v.heap.size v w') := HC
  have y10 := HX.out.row.mat.2.2.2.2.2.2.2.2.2.2
  have HB : Hid (Below w.heap.size w v) := HX.out.below
  clear HC he HX HI HRe hq
  go_wp2_with fail
  refine HC2.out.mono ?_
  rintro e w2 ⟨rfl, hb⟩
  have HB1 : Hid (Below w.heap.size w w2) := HB.out.trans (hb.mono HB.out.size)
  clear hb HC2 HB y10
  go_wp2
  go_ret2
  exact ⟨rfl, HB1.out⟩

set_option maxRecDepth 100000 in
set_option maxHeartbeats 4000000 in
theorem ck_check (w : World) (hT : Tab w) (m : Mx.M) (a : Ma) (hm : MIn w m a) (hS : Mx.Small m) (hw : Mx.Wf m) : Calls Tryd.prog 32 #[mV m a] w fun e w' => e = .returned (.tuple #[.int .i64 (Lq.check m).1, .int .i64 (Lq.check m).2]) ∧ Below w.heap.size w w' := by
  have HX : Hid (Bx w (w.alloc (.cells (mCs m a) 27)) w.heap.size m a) := Bx.mk' hm
  obtain ⟨y0, y1, y2, y3, y4, y5, y6, y7, y8, y9, y10⟩ := HX.out.row.mat
  have HTb : Hid (∀ w', Below w.heap.size w w' → Tab w') := fun w' hb => hT.below hb
  have HCi : Hid (Calls Tryd.prog 41 #[mV m a] (w.alloc (.cells (mCs m a) 27)) fun e w' => e = .returned (.bool (Mx.is m)) ∧ Below (w.alloc (.cells (mCs m a) 27)).heap.size (w.alloc (.cells (mCs m a) 27)) w') := mk_is _ (HTb.out _ HX.out.below) m a HX.out.mem hS
  have HCs : Hid (∀ w1, Bx w w1 w.heap.size m a → Calls Tryd.prog 42 #[mV m a] w1 fun e w' => e = .returned (.int .i64 (Lq.step m)) ∧ Below w1.heap.size w1 w') := fun w1 h => ck_step w1 (HTb.out _ h.below) m a h.mem hS hw
  obtain ⟨R, hR⟩ : ∃ R, Lq.check m = R := ⟨_, rfl⟩
  obtain ⟨R1, R2⟩ := R
  rw [hR]
  have HRe : Hid (Lq.check m = (R1, R2)) := hR
  clear hR hm hS hw hT
  show Calls _ _ #[.agg (mCs m a)] _ _
  go_enter Tryd.func32, Tryd.ntmps32
  go_wp2_with fail
  refine HCi.out.mono ?_
  rintro e w1 ⟨rfl, hb⟩
  replace HX : Hid (Bx w w1 w.heap.size m a) := HX.out.on hb
  clear hb HCi y0 y1 y2 y3 y4 y5 y6 y7 y8 y9 y10
  cases hi : Mx.is m
  · obtain ⟨rfl, rfl⟩ : R1 = 0 ∧ R2 = 120 := by
      have h := HRe.out
      unfold Lq.check at h
      rw [hi, if_pos rfl] at h
      injection h with h1 h2
      exact ⟨h1.symm, h2.symm⟩
    go_wp2
    go_ret2
    exact ⟨rfl, HX.out.below⟩
  have HR : Hid (∀ w', Below w1.heap.size w1 w' → RowT 27 w' w.heap.size (mCs m a)) := fun w' hb => (HX.out.on hb).row
  have HC : Hid (∀ w', Below w1.heap.size w1 w' → Calls Tryd.prog 42 #[mV m a] w' fun e w'' => e = .returned (.int .i64 (Lq.step m)) ∧ Below w'.heap.size w' w'') := fun w' hb => HCs.out w' (HX.out.on hb)
  have HI : Hid (Mx.is m = true) := hi
  clear HCs hi
  go_wp2_with fail
  refine Lw.wp_region_quiet_below (by kernel_rfl) (by kernel_rfl) ?_
  repeat (first
    | go_big_quiet_skip
    | (go_big_quiet_want; go_big_quiet_op; go_big_quiet_on)
    | (go_big_quiet_want; go_big_quiet_op; apply Exists.intro; refine ⟨fun _ hb' => ?_, ?_⟩; (first
      | exact Lw.val_rfl _
      | (go_at_call 42; exact Lw.calls_below hb' (HC.out _ hb'))
      | (simp [go_sem, (HR.out _ hb').mat.2.2.2.1]; rfl)
      | (simp [go_sem, (HR.out _ hb').mat.1, (HR.out _ hb').mat.2.1, (HR.out _ hb').mat.2.2.1, (HR.out _ hb').mat.2.2.2.1, (HR.out _ hb').mat.2.2.2.2.1, (HR.out _ hb').mat.2.2.2.2.2.1, (HR.out _ hb').mat.2.2.2.2.2.2.1, (HR.out _ hb').mat.2.2.2.2.2.2.2.1, (HR.out _ hb').mat.2.2.2.2.2.2.2.2.1, (HR.out _ hb').mat.2.2.2.2.2.2.2.2.2.1, (HR.out _ hb').mat.2.2.2.2.2.2.2.2.2.2]; rfl)); go_big_quiet_on))
  refine wpQuiet_nil ?_
  intro w2 hb
  replace HX : Hid (Bx w w2 w.heap.size m a) := HX.out.on hb
  clear hb HR HC
  by_cases hl : m.length < Lq.step m
  · obtain ⟨rfl, rfl⟩ : R1 = 0 ∧ R2 = 140 := by
      have h := HRe.out
      unfold Lq.check at h
      rw [HI.out, if_neg (by simp), if_pos hl] at h
      injection h with h1 h2
      exact ⟨h1.symm, h2.symm⟩
    go_wp2
    go_ret2
    exact ⟨rfl, HX.out.below⟩
  have hl' : Lq.step m ≤ m.length := by omega
  have HRo : Hid ((R1, R2) = Lq.orElse (Lq.scan (Lq.eMaster m) m.masters.length 0) (Lq.orElse (Lq.scan (Lq.eOwner m) m.messages.length 0) (Lq.orElse (Lq.scan (Lq.eRank m) m.masters.length 0) (Lq.orElse (Lq.scan (Lq.eFind m) m.messages.length 0) (Lq.scan (Lq.eWin m) m.windows.length 0))))) := HRe.out.symm.trans (Lq.check_ord HI.out hl)
  clear HRe
  obtain ⟨s1, h1⟩ : ∃ s, Lq.scan (Lq.eMaster m) m.masters.length 0 = s := ⟨_, rfl⟩
  obtain ⟨s2, h2⟩ : ∃ s, Lq.scan (Lq.eOwner m) m.messages.length 0 = s := ⟨_, rfl⟩
  obtain ⟨s3, h3⟩ : ∃ s, Lq.scan (Lq.eRank m) m.masters.length 0 = s := ⟨_, rfl⟩
  obtain ⟨s4, h4⟩ : ∃ s, Lq.scan (Lq.eFind m) m.messages.length 0 = s := ⟨_, rfl⟩
  obtain ⟨s5, h5⟩ : ∃ s, Lq.scan (Lq.eWin m) m.windows.length 0 = s := ⟨_, rfl⟩
  have P1 : Hid (∀ w1, Bx w w1 w.heap.size m a → Calls Tryd.prog 43 #[mV m a] w1 fun e w' => e = .returned (.tuple #[.int .i64 s1.1, .int .i64 s1.2]) ∧ Below w1.heap.size w1 w') := fun w1 h => ck_part1 w1 m a h.mem HI.out s1 h1
  have P2 : Hid (∀ w1, Bx w w1 w.heap.size m a → Calls Tryd.prog 44 #[mV m a] w1 fun e w' => e = .returned (.tuple #[.int .i64 s2.1, .int .i64 s2.2]) ∧ Below w1.heap.size w1 w') := fun w1 h => ck_part2 w1 m a h.mem HI.out s2 h2
  have P3 : Hid (∀ w1, Bx w w1 w.heap.size m a → Calls Tryd.prog 45 #[mV m a] w1 fun e w' => e = .returned (.tuple #[.int .i64 s3.1, .int .i64 s3.2]) ∧ Below w1.heap.size w1 w') := fun w1 h => ck_part3 w1 m a h.mem HI.out s3 h3
  have P4 : Hid (∀ w1, Bx w w1 w.heap.size m a → Calls Tryd.prog 46 #[mV m a] w1 fun e w' => e = .returned (.tuple #[.int .i64 s4.1, .int .i64 s4.2]) ∧ Below w1.heap.size w1 w') := fun w1 h => ck_part4 w1 m a h.mem HI.out s4 h4
  have P5 : Hid (∀ w1, Bx w w1 w.heap.size m a → Calls Tryd.prog 47 #[mV m a] w1 fun e w' => e = .returned (.tuple #[.int .i64 s5.1, .int .i64 s5.2]) ∧ Below w1.heap.size w1 w') := fun w1 h => ck_part5 w1 (HTb.out _ h.below) m a h.mem HI.out s5 h5
  rw [h1, h2, h3, h4, h5] at HRo
  have HZ : Hid (s5.2 = 0 → s5 = (0, 0)) := fun h => by rw [← h5] at h ⊢; exact Lq.scan_nothing h
  clear h1 h2 h3 h4 h5 HI HTb hl
  obtain ⟨a1, b1⟩ := s1
  obtain ⟨a2, b2⟩ := s2
  obtain ⟨a3, b3⟩ := s3
  obtain ⟨a4, b4⟩ := s4
  obtain ⟨a5, b5⟩ := s5
  have hb0 : Below w2.heap.size w2 (w2.alloc (.cells #[.func (.func 43) #[] #[], .func (.func 44) #[] #[], .func (.func 45) #[] #[], .func (.func 46) #[] #[], .func (.func 47) #[] #[]] 67)) := (Below.refl _ _).alloc (Nat.le_refl _) _
  have hq : RowT 67 (w2.alloc (.cells #[.func (.func 43) #[] #[], .func (.func 44) #[] #[], .func (.func 45) #[] #[], .func (.func 46) #[] #[], .func (.func 47) #[] #[]] 67)) w2.heap.size #[.func (.func 43) #[] #[], .func (.func 44) #[] #[], .func (.func 45) #[] #[], .func (.func 46) #[] #[], .func (.func 47) #[] #[]] := RowT.new _ w2 _
  replace HX : Hid (Bx w (w2.alloc (.cells #[.func (.func 43) #[] #[], .func (.func 44) #[] #[], .func (.func 45) #[] #[], .func (.func 46) #[] #[], .func (.func 47) #[] #[]] 67)) w.heap.size m a) := HX.out.on hb0
  clear hb0
  go_upto_block 0 with fail
  generalize (w2.alloc (.cells #[.func (.func 43) #[] #[], .func (.func 44) #[] #[], .func (.func 45) #[] #[], .func (.func 46) #[] #[], .func (.func 47) #[] #[]] 67)) = v at HX hq ⊢
  generalize w2.heap.size = q at hq ⊢
  have HQ : Hid (RowT 67 v q #[.func (.func 43) #[] #[], .func (.func 44) #[] #[], .func (.func 45) #[] #[], .func (.func 46) #[] #[], .func (.func 47) #[] #[]]) := hq
  clear hq hl'
  go_wp2_with fail
  go_loopw [18, 5, 6, 7] (fun vi _ _ _ wr => (vi = .int .i64 0 ∧ Hid (Below v.heap.size v wr)) ∨ (vi = .int .i64 1 ∧ Hid (Below v.heap.size v wr) ∧ Hid (b1 = 0)) ∨ (vi = .int .i64 2 ∧ Hid (Below v.heap.size v wr) ∧ Hid (b1 = 0) ∧ Hid (b2 = 0)) ∨ (vi = .int .i64 3 ∧ Hid (Below v.heap.size v wr) ∧ Hid (b1 = 0) ∧ Hid (b2 = 0) ∧ Hid (b3 = 0)) ∨ (vi = .int .i64 4 ∧ Hid (Below v.heap.size v wr) ∧ Hid (b1 = 0) ∧ Hid (b2 = 0) ∧ Hid (b3 = 0) ∧ Hid (b4 = 0)) ∨ (vi = .int .i64 5 ∧ Hid (Below v.heap.size v wr) ∧ Hid (b1 = 0) ∧ Hid (b2 = 0) ∧ Hid (b3 = 0) ∧ Hid (b4 = 0) ∧ Hid (b5 = 0))) (fun vi _ _ _ _ => 5 - (intOf vi).toNat)
  case atStart => exact Or.inl ⟨rfl, Below.refl _ _⟩
  case round =>
    rcases hrel with ⟨rfl, HV⟩ | ⟨rfl, HV, Z1⟩ | ⟨rfl, HV, Z1, Z2⟩ | ⟨rfl, HV, Z1, Z2, Z3⟩ | ⟨rfl, HV, Z1, Z2, Z3, Z4⟩ | ⟨rfl, HV, Z1, Z2, Z3, Z4, Z5⟩
    · have HXr : Hid (Bx w wr w.heap.size m a) := HX.out.on HV.out
      obtain ⟨y0, y1, y2, y3, y4, y5, y6, y7, y8, y9, y10⟩ := HXr.out.row.mat
      have c0 : wr.cell? ⟨q, 0, none⟩ = some (.func (.func 43) #[] #[]) := (HQ.out.on HV.out).c 0 _ rfl
      have HC := P1.out wr HXr.out
      by_cases hz : b1 = 0
      · have zb : (b1 != 0) = false := by rw [hz]; rfl
        have ZN : Hid (b1 = 0) := hz
        clear hz
        go_wp2_with fail
        refine HC.mono ?_
        rintro e w3 ⟨rfl, hb⟩
        have HV2 : Hid (Below v.heap.size v w3) := HV.out.trans (hb.mono HV.out.size)
        clear hb HC HXr y0 y1 y2 y3 y4 y5 y6 y7 y8 y9 y10 c0
        go_wp2_with fail
        go_roundw
        case rel => exact Or.inr (Or.inl (⟨rfl, HV2, ZN⟩))
        case measure => simp only [intOf]; omega
      · obtain ⟨rfl, rfl⟩ : a1 = R1 ∧ b1 = R2 := by
          have h := HRo.out
          rw [Lq.orElse_some (a := (a1, b1)) hz] at h
          injection h with h1 h2
          exact ⟨h1.symm, h2.symm⟩
        have zb : (b1 != 0) = true := by simpa [bne] using hz
        clear hz
        go_wp2_with fail
        refine HC.mono ?_
        rintro e w3 ⟨rfl, hb⟩
        have HXs : Hid (Bx w w3 w.heap.size m a) := HXr.out.on hb
        clear hb HC HXr y0 y1 y2 y3 y4 y5 y6 y7 y8 y9 y10 c0
        go_wp2
        go_ret2
        exact ⟨rfl, HXs.out.below⟩
    · have HXr : Hid (Bx w wr w.heap.size m a) := HX.out.on HV.out
      obtain ⟨y0, y1, y2, y3, y4, y5, y6, y7, y8, y9, y10⟩ := HXr.out.row.mat
      have c0 : wr.cell? ⟨q, 1, none⟩ = some (.func (.func 44) #[] #[]) := (HQ.out.on HV.out).c 1 _ rfl
      have HC := P2.out wr HXr.out
      by_cases hz : b2 = 0
      · have zb : (b2 != 0) = false := by rw [hz]; rfl
        have ZN : Hid (b2 = 0) := hz
        clear hz
        go_wp2_with fail
        refine HC.mono ?_
        rintro e w3 ⟨rfl, hb⟩
        have HV2 : Hid (Below v.heap.size v w3) := HV.out.trans (hb.mono HV.out.size)
        clear hb HC HXr y0 y1 y2 y3 y4 y5 y6 y7 y8 y9 y10 c0
        go_wp2_with fail
        go_roundw
        case rel => exact Or.inr (Or.inr (Or.inl (⟨rfl, HV2, Z1, ZN⟩)))
        case measure => simp only [intOf]; omega
      · obtain ⟨rfl, rfl⟩ : a2 = R1 ∧ b2 = R2 := by
          have h := HRo.out
          rw [Lq.orElse_zero (a := (a1, b1)) Z1.out, Lq.orElse_some (a := (a2, b2)) hz] at h
          injection h with h1 h2
          exact ⟨h1.symm, h2.symm⟩
        have zb : (b2 != 0) = true := by simpa [bne] using hz
        clear hz
        go_wp2_with fail
        refine HC.mono ?_
        rintro e w3 ⟨rfl, hb⟩
        have HXs : Hid (Bx w w3 w.heap.size m a) := HXr.out.on hb
        clear hb HC HXr y0 y1 y2 y3 y4 y5 y6 y7 y8 y9 y10 c0
        go_wp2
        go_ret2
        exact ⟨rfl, HXs.out.below⟩
    · have HXr : Hid (Bx w wr w.heap.size m a) := HX.out.on HV.out
      obtain ⟨y0, y1, y2, y3, y4, y5, y6, y7, y8, y9, y10⟩ := HXr.out.row.mat
      have c0 : wr.cell? ⟨q, 2, none⟩ = some (.func (.func 45) #[] #[]) := (HQ.out.on HV.out).c 2 _ rfl
      have HC := P3.out wr HXr.out
      by_cases hz : b3 = 0
      · have zb : (b3 != 0) = false := by rw [hz]; rfl
        have ZN : Hid (b3 = 0) := hz
        clear hz
        go_wp2_with fail
        refine HC.mono ?_
        rintro e w3 ⟨rfl, hb⟩
        have HV2 : Hid (Below v.heap.size v w3) := HV.out.trans (hb.mono HV.out.size)
        clear hb HC HXr y0 y1 y2 y3 y4 y5 y6 y7 y8 y9 y10 c0
        go_wp2_with fail
        go_roundw
        case rel => exact Or.inr (Or.inr (Or.inr (Or.inl (⟨rfl, HV2, Z1, Z2, ZN⟩))))
        case measure => simp only [intOf]; omega
      · obtain ⟨rfl, rfl⟩ : a3 = R1 ∧ b3 = R2 := by
          have h := HRo.out
          rw [Lq.orElse_zero (a := (a1, b1)) Z1.out, Lq.orElse_zero (a := (a2, b2)) Z2.out, Lq.orElse_some (a := (a3, b3)) hz] at h
          injection h with h1 h2
          exact ⟨h1.symm, h2.symm⟩
        have zb : (b3 != 0) = true := by simpa [bne] using hz
        clear hz
        go_wp2_with fail
        refine HC.mono ?_
        rintro e w3 ⟨rfl, hb⟩
        have HXs : Hid (Bx w w3 w.heap.size m a) := HXr.out.on hb
        clear hb HC HXr y0 y1 y2 y3 y4 y5 y6 y7 y8 y9 y10 c0
        go_wp2
        go_ret2
        exact ⟨rfl, HXs.out.below⟩
    · have HXr : Hid (Bx w wr w.heap.size m a) := HX.out.on HV.out
      obtain ⟨y0, y1, y2, y3, y4, y5, y6, y7, y8, y9, y10⟩ := HXr.out.row.mat
      have c0 : wr.cell? ⟨q, 3, none⟩ = some (.func (.func 46) #[] #[]) := (HQ.out.on HV.out).c 3 _ rfl
      have HC := P4.out wr HXr.out
      by_cases hz : b4 = 0
      · have zb : (b4 != 0) = false := by rw [hz]; rfl
        have ZN : Hid (b4 = 0) := hz
        clear hz
        go_wp2_with fail
        refine HC.mono ?_
        rintro e w3 ⟨rfl, hb⟩
        have HV2 : Hid (Below v.heap.size v w3) := HV.out.trans (hb.mono HV.out.size)
        clear hb HC HXr y0 y1 y2 y3 y4 y5 y6 y7 y8 y9 y10 c0
        go_wp2_with fail
        go_roundw
        case rel => exact Or.inr (Or.inr (Or.inr (Or.inr (Or.inl (⟨rfl, HV2, Z1, Z2, Z3, ZN⟩)))))
        case measure => simp only [intOf]; omega
      · obtain ⟨rfl, rfl⟩ : a4 = R1 ∧ b4 = R2 := by
          have h := HRo.out
          rw [Lq.orElse_zero (a := (a1, b1)) Z1.out, Lq.orElse_zero (a := (a2, b2)) Z2.out, Lq.orElse_zero (a := (a3, b3)) Z3.out, Lq.orElse_some (a := (a4, b4)) hz] at h
          injection h with h1 h2
          exact ⟨h1.symm, h2.symm⟩
        have zb : (b4 != 0) = true := by simpa [bne] using hz
        clear hz
        go_wp2_with fail
        refine HC.mono ?_
        rintro e w3 ⟨rfl, hb⟩
        have HXs : Hid (Bx w w3 w.heap.size m a) := HXr.out.on hb
        clear hb HC HXr y0 y1 y2 y3 y4 y5 y6 y7 y8 y9 y10 c0
        go_wp2
        go_ret2
        exact ⟨rfl, HXs.out.below⟩
    · have HXr : Hid (Bx w wr w.heap.size m a) := HX.out.on HV.out
      obtain ⟨y0, y1, y2, y3, y4, y5, y6, y7, y8, y9, y10⟩ := HXr.out.row.mat
      have c0 : wr.cell? ⟨q, 4, none⟩ = some (.func (.func 47) #[] #[]) := (HQ.out.on HV.out).c 4 _ rfl
      have HC := P5.out wr HXr.out
      by_cases hz : b5 = 0
      · have zb : (b5 != 0) = false := by rw [hz]; rfl
        have ZN : Hid (b5 = 0) := hz
        clear hz
        go_wp2_with fail
        refine HC.mono ?_
        rintro e w3 ⟨rfl, hb⟩
        have HV2 : Hid (Below v.heap.size v w3) := HV.out.trans (hb.mono HV.out.size)
        clear hb HC HXr y0 y1 y2 y3 y4 y5 y6 y7 y8 y9 y10 c0
        go_wp2_with fail
        go_roundw
        case rel => exact Or.inr (Or.inr (Or.inr (Or.inr (Or.inr ((⟨rfl, HV2, Z1, Z2, Z3, Z4, ZN⟩))))))
        case measure => simp only [intOf]; omega
      · obtain ⟨rfl, rfl⟩ : a5 = R1 ∧ b5 = R2 := by
          have h := HRo.out
          rw [Lq.orElse_zero (a := (a1, b1)) Z1.out, Lq.orElse_zero (a := (a2, b2)) Z2.out, Lq.orElse_zero (a := (a3, b3)) Z3.out, Lq.orElse_zero (a := (a4, b4)) Z4.out] at h
          injection h with h1 h2
          exact ⟨h1.symm, h2.symm⟩
        have zb : (b5 != 0) = true := by simpa [bne] using hz
        clear hz
        go_wp2_with fail
        refine HC.mono ?_
        rintro e w3 ⟨rfl, hb⟩
        have HXs : Hid (Bx w w3 w.heap.size m a) := HXr.out.on hb
        clear hb HC HXr y0 y1 y2 y3 y4 y5 y6 y7 y8 y9 y10 c0
        go_wp2
        go_ret2
        exact ⟨rfl, HXs.out.below⟩
    · have HXr : Hid (Bx w wr w.heap.size m a) := HX.out.on HV.out
      obtain ⟨rfl, rfl⟩ : R1 = 0 ∧ R2 = 0 := by
        have h := HRo.out
        rw [Lq.orElse_zero (a := (a1, b1)) Z1.out, Lq.orElse_zero (a := (a2, b2)) Z2.out, Lq.orElse_zero (a := (a3, b3)) Z3.out, Lq.orElse_zero (a := (a4, b4)) Z4.out, HZ.out Z5.out] at h
        injection h with h1 h2
        exact ⟨h1, h2⟩
      go_wp2
      go_ret2
      exact ⟨rfl, HXr.out.below⟩

end Go.Proofs.YtnbfnipdiffphaaDoor
