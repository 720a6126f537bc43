/- Package refmsg, landed: a beat's frame; the only beat that a frame may be of, held against its own frame. -/
import Derived.Test.YtoinkaakiohclaaDoorA21
import Derived.Test.YtoinkaakiohclaaDoorM21Back
import Derived.Test.YtoinkaakiohclaaDoorHl
import Derived.Test.YtoinkaakiohclaaDoorBh
import Derived.Test.YtoinkaakiohclaaDoorU2
import Derived.Laws.StructEq
import Derived.Laws.BitsAllLaws
import Derived.Laws.IdiomStrings
namespace Go.Proofs.YtoinkaakiohclaaDoor
open Go.RowKit Go.WideShapes
set_option linter.unusedVariables false
/-- A beat as it lies. -/
def beC (r c : Int) (g : Nat) (d : Bool) : Array Value := #[.int .i64 r, .int .i64 c, .int .u16 (g : Int), .bool d]
set_option maxRecDepth 100000 in
set_option maxHeartbeats 4000000 in
theorem rf_within (w : World) (n hi : Int) : Calls Tryd.prog 31 #[.int .i64 n, .int .i64 hi] w fun e w' => e = .returned (.bool (decide (0 ≤ n) && decide (n < hi))) ∧ w' = w := by
  by_cases h : 0 ≤ n
  · rw [decide_eq_true h, Bool.true_and]
    go_enter Tryd.func31, Tryd.ntmps31
    go_wp2
    go_ret
    exact ⟨by simp, rfl⟩
  · rw [decide_eq_false h, Bool.false_and]
    go_enter Tryd.func31, Tryd.ntmps31
    go_wp2
    go_ret
    exact ⟨rfl, rfl⟩
set_option maxRecDepth 100000 in
set_option maxHeartbeats 4000000 in
theorem rf_can (W : World) (hT : Tab W) (m : Mx.M) (a : Ma) (r c : Int) (g : Nat) (d : Bool) (hm : MIn W m a) (hS : Mx.Small m) : Calls Tryd.prog 18 #[mV m a, .agg (beC r c g d)] W fun e w' => e = .returned (.bool (Q21.fits m r c)) ∧ Below W.heap.size W w' := by
  have HX0 : Hid (Bx W (W.alloc (.cells (mCs m a) 27)) W.heap.size m a) := Bx.mk' hm
  have HX : Hid (Bx W ((W.alloc (.cells (mCs m a) 27)).alloc (.cells (beC r c g d) 36)) W.heap.size m a) := HX0.out.on ((Below.refl _ _).alloc (Nat.le_refl _) _)
  have HB : Hid (RowT 36 ((W.alloc (.cells (mCs m a) 27)).alloc (.cells (beC r c g d) 36)) (W.heap.size + 1) (beC r c g d)) := by
    have := RowT.new 36 (W.alloc (.cells (mCs m a) 27)) (beC r c g d)
    rwa [show (W.alloc (.cells (mCs m a) 27)).heap.size = W.heap.size + 1 from by simp] at this
  have CI : Hid (∀ w b, Below W.heap.size W w → MIn w m a → Mx.is m = b → Calls Tryd.prog 30 #[.agg (mCs m a)] w fun e w' => e = .returned (.bool b) ∧ Below w.heap.size w w') := fun w b hb hi e => by subst e; exact mk_is w (hT.below hb) m a hi hS
  have CW : Hid (∀ w n hi b, (decide (0 ≤ n) && decide (n < hi)) = b → Calls Tryd.prog 31 #[.int .i64 n, .int .i64 hi] w fun e w' => e = .returned (.bool b) ∧ w' = w) := fun w n hi b e => by subst e; exact rf_within w n hi
  have hQ : Q21.fits m r c = (Mx.is m && ((decide (0 ≤ r) && decide (r < (m.masters.length : Int))) && (decide (0 ≤ c) && decide (c < m.cycles)))) := by
    unfold Q21.fits
    simp only [Bool.and_assoc]
  rw [hQ]
  clear hQ hT hS hm HX0
  obtain ⟨b1, h1⟩ : ∃ b, Mx.is m = b := ⟨_, rfl⟩
  obtain ⟨b2, h2⟩ : ∃ b, (decide (0 ≤ r) && decide (r < (m.masters.length : Int))) = b := ⟨_, rfl⟩
  obtain ⟨b3, h3⟩ : ∃ b, (decide (0 ≤ c) && decide (c < m.cycles)) = b := ⟨_, rfl⟩
  rw [h1, h2, h3]
  have H1 : Hid (Mx.is m = b1) := h1
  have H2 : Hid ((decide (0 ≤ r) && decide (r < (m.masters.length : Int))) = b2) := h2
  have H3 : Hid ((decide (0 ≤ c) && decide (c < m.cycles)) = b3) := h3
  clear h1 h2 h3
  have x := HX.out.row.mat
  obtain ⟨x0, x1, x2, x3, x4, x5, x6, x7, x8, x9, x10⟩ := x
  show Calls _ _ #[.agg (mCs m a), _] _ _
  go_enter Tryd.func18, Tryd.ntmps18
  go_wp2_with fail
  refine (CI.out _ _ HX.out.below HX.out.mem H1.out).mono ?_
  rintro e w1 ⟨rfl, hb⟩
  clear x0 x1 x2 x3 x4 x5 x6 x7 x8 x9 x10
  replace HX : Hid (Bx W w1 W.heap.size m a) := HX.out.on hb
  replace HB : Hid (RowT 36 w1 (W.heap.size + 1) (beC r c g d)) := HB.out.on hb
  clear hb CI
  have x := HX.out.row.mat
  obtain ⟨x0, x1, x2, x3, x4, x5, x6, x7, x8, x9, x10⟩ := x
  have y0 := HB.out.c 0 _ rfl
  have y1 := HB.out.c 1 _ rfl
  generalize m.masters.length = ml at *
  cases b1
  · go_wp2
    go_ret
    exact ⟨rfl, HX.out.below⟩
  · go_wp2_with fail
    refine (CW.out _ _ _ _ H2.out).mono ?_
    rintro e w2 ⟨rfl, rfl⟩
    cases b2
    · go_wp2
      go_ret
      exact ⟨rfl, HX.out.below⟩
    · go_wp2_with fail
      refine (CW.out _ _ _ _ H3.out).mono ?_
      rintro e w2 ⟨rfl, rfl⟩
      go_wp2
      go_ret
      exact ⟨by simp, HX.out.below⟩
/-- A beat's bytes, as the code lays them. -/
def beD (lv : Int) (c g : Nat) (d : Bool) : List UInt8 := if lv = 1 then [UInt8.ofNat c] else [UInt8.ofNat c, (if d then 1 else 0), UInt8.ofNat (g / 256), UInt8.ofNat (g % 256)]
theorem rf_four (v : World) (q : Nat) (x0 x1 x2 x3 : Int) (h : RowT 66 v q #[.int .u8 x0, .int .u8 x1, .int .u8 x2, .int .u8 x3]) (h0 : 0 ≤ x0 ∧ x0 < 256) (h1 : 0 ≤ x1 ∧ x1 < 256) (h2 : 0 ≤ x2 ∧ x2 < 256) (h3 : 0 ≤ x3 ∧ x3 < 256) :
    (convert 51 9 (.slice (some ⟨q, 0, none⟩) 4 4)).run Tryd.prog v = .ok (.string ⟨[UInt8.ofNat x0.toNat, UInt8.ofNat x1.toNat, UInt8.ofNat x2.toNat, UInt8.ofNat x3.toNat].toArray⟩) v := by
  refine run_convert_bytes_back v 51 9 5 ⟨q, 0, none⟩ 4 [UInt8.ofNat x0.toNat, UInt8.ofNat x1.toNat, UInt8.ofNat x2.toNat, UInt8.ofNat x3.toNat] Tryd.underlying51 Tryd.underlying5 Tryd.underlying9 ?_
  intro j hj
  have e : ∀ x : Int, 0 ≤ x ∧ x < 256 → ((UInt8.ofNat x.toNat).toNat : Int) = x := fun x hx => by rw [UInt8.toNat_ofNat']; omega
  match j, hj with
  | 0, _ => show v.cell? ⟨q, 0, none⟩ = some (.int .u8 ((UInt8.ofNat x0.toNat).toNat : Int)); rw [e x0 h0]; exact h.c 0 _ rfl
  | 1, _ => show v.cell? ⟨q, 0 + 1, none⟩ = some (.int .u8 ((UInt8.ofNat x1.toNat).toNat : Int)); rw [e x1 h1]; exact h.c 1 _ rfl
  | 2, _ => show v.cell? ⟨q, 0 + 2, none⟩ = some (.int .u8 ((UInt8.ofNat x2.toNat).toNat : Int)); rw [e x2 h2]; exact h.c 2 _ rfl
  | 3, _ => show v.cell? ⟨q, 0 + 3, none⟩ = some (.int .u8 ((UInt8.ofNat x3.toNat).toNat : Int)); rw [e x3 h3]; exact h.c 3 _ rfl
theorem rf_first (v : World) (q : Nat) (x0 x1 x2 x3 : Int) (h : RowT 66 v q #[.int .u8 x0, .int .u8 x1, .int .u8 x2, .int .u8 x3]) (h0 : 0 ≤ x0 ∧ x0 < 256) :
    (convert 51 9 (.slice (some ⟨q, 0, none⟩) 1 4)).run Tryd.prog v = .ok (.string ⟨[UInt8.ofNat x0.toNat].toArray⟩) v := by
  refine run_convert_bytes_back v 51 9 5 ⟨q, 0, none⟩ 4 [UInt8.ofNat x0.toNat] Tryd.underlying51 Tryd.underlying5 Tryd.underlying9 ?_
  intro j hj
  have e : ∀ x : Int, 0 ≤ x ∧ x < 256 → ((UInt8.ofNat x.toNat).toNat : Int) = x := fun x hx => by rw [UInt8.toNat_ofNat']; omega
  match j, hj with
  | 0, _ => show v.cell? ⟨q, 0, none⟩ = some (.int .u8 ((UInt8.ofNat x0.toNat).toNat : Int)); rw [e x0 h0]; exact h.c 0 _ rfl
theorem beD_one {lv : Int} (c g : Nat) (d : Bool) (h : lv = 1) : [UInt8.ofNat (c : Int).toNat] = beD lv c g d := by unfold beD; rw [if_pos h]; rfl
theorem beD_four {lv : Int} (c g : Nat) (d : Bool) (h : ¬ lv = 1) (x : Int) (hx : x = if d then 1 else 0) : [UInt8.ofNat (c : Int).toNat, UInt8.ofNat x.toNat, UInt8.ofNat ((g : Int) / 256).toNat, UInt8.ofNat ((g : Int) % 256).toNat] = beD lv c g d := by
  unfold beD
  rw [if_neg h]
  have e1 : ((g : Int) / 256).toNat = g / 256 := by omega
  have e2 : ((g : Int) % 256).toNat = g % 256 := by omega
  rw [e1, e2]
  subst hx
  cases d <;> rfl
set_option maxRecDepth 100000 in
set_option maxHeartbeats 4000000 in
theorem rf_data (w : World) (lv r : Int) (c g : Nat) (d : Bool) (hc : c < 256) (hg : g < 65536) : Calls Tryd.prog 32 #[.int .i64 lv, .agg (beC r c g d)] w fun e w' => e = .returned (.string ⟨(beD lv c g d).toArray⟩) ∧ Below w.heap.size w w' := by
  have HB : Hid (RowT 36 (w.alloc (.cells (beC r c g d) 36)) w.heap.size (beC r c g d)) := RowT.new _ _ _
  have y1 : (w.alloc (.cells (beC r c g d) 36)).cell? ⟨w.heap.size, 1, none⟩ = some (.int .i64 (c : Int)) := HB.out.c 1 _ rfl
  have y2 : (w.alloc (.cells (beC r c g d) 36)).cell? ⟨w.heap.size, 2, none⟩ = some (.int .u16 (g : Int)) := HB.out.c 2 _ rfl
  have y3 : ∀ o, ((w.alloc (.cells (beC r c g d) 36)).alloc o).cell? ⟨w.heap.size, 3, none⟩ = some (.bool d) := fun o => (HB.out.on ((Below.refl _ _).alloc (Nat.le_refl _) _)).c 3 _ rfl
  generalize beC r c g d = cs at *
  have hb0 : Below w.heap.size w (w.alloc (.cells cs 36)) := (Below.refl _ _).alloc (Nat.le_refl _) _
  have hsz : (w.alloc (.cells cs 36)).heap.size = w.heap.size + 1 := by simp
  have hR : RowT 66 ((w.alloc (.cells cs 36)).alloc (.cells #[.int .u8 (c : Int), .int .u8 0, .int .u8 ((g : Int) / 256), .int .u8 ((g : Int) % 256)] 66)) (w.heap.size + 1) #[.int .u8 (c : Int), .int .u8 0, .int .u8 ((g : Int) / 256), .int .u8 ((g : Int) % 256)] := by
    have := RowT.new 66 (w.alloc (.cells cs 36)) #[.int .u8 (c : Int), .int .u8 0, .int .u8 ((g : Int) / 256), .int .u8 ((g : Int) % 256)]
    rwa [hsz] at this
  have hR1 : RowT 66 ((w.alloc (.cells cs 36)).alloc (.cells #[.int .u8 (c : Int), .int .u8 1, .int .u8 ((g : Int) / 256), .int .u8 ((g : Int) % 256)] 66)) (w.heap.size + 1) #[.int .u8 (c : Int), .int .u8 1, .int .u8 ((g : Int) / 256), .int .u8 ((g : Int) % 256)] := by
    have := RowT.new 66 (w.alloc (.cells cs 36)) #[.int .u8 (c : Int), .int .u8 1, .int .u8 ((g : Int) / 256), .int .u8 ((g : Int) % 256)]
    rwa [hsz] at this
  have hb1 : ∀ o, Below w.heap.size w ((w.alloc (.cells cs 36)).alloc o) := fun o => hb0.alloc (by simp) o
  have HR : Hid (RowT 66 _ _ _) := hR
  have HR1 : Hid (RowT 66 _ _ _) := hR1
  have HB0 : Hid (∀ o, Below w.heap.size w ((w.alloc (.cells cs 36)).alloc o)) := hb1
  clear hR hR1 hb1 hb0 hsz
  cases d
  · by_cases h1 : lv = 1
    · go_enter Tryd.func32, Tryd.ntmps32
      go_wp2_with fail
      rw [rf_first _ _ _ _ _ _ HR.out (by omega)]
      go_wp2
      go_ret
      exact ⟨by rw [← beD_one c g false h1]; rfl, HB0.out _⟩
    · go_enter Tryd.func32, Tryd.ntmps32
      go_wp2_with fail
      rw [rf_four _ _ _ _ _ _ HR.out (by omega) (by omega) (by omega) (by omega)]
      go_wp2
      go_ret
      exact ⟨by rw [← beD_four c g false h1 0 rfl]; rfl, HB0.out _⟩
  · by_cases h1 : lv = 1
    · go_enter Tryd.func32, Tryd.ntmps32
      go_wp2_with fail
      rw [rf_first _ _ _ _ _ _ HR1.out (by omega)]
      go_wp2
      go_ret
      exact ⟨by rw [← beD_one c g true h1]; rfl, HB0.out _⟩
    · go_enter Tryd.func32, Tryd.ntmps32
      go_wp2_with fail
      rw [rf_four _ _ _ _ _ _ HR1.out (by omega) (by omega) (by omega) (by omega)]
      go_wp2
      go_ret
      exact ⟨by rw [← beD_four c g true h1 1 rfl]; rfl, HB0.out _⟩
/-- What a frame is made of: the matrix, the beat, the result's block. -/
structure Fr (W w : World) (m : Mx.M) (a : Ma) (be : Array Value) : Prop where
  mat : RowT 27 w W.heap.size (mCs m a)
  be : RowT 36 w (W.heap.size + 1) be
  bel : Below W.heap.size W w
theorem Fr.on {W w w' : World} {m : Mx.M} {a : Ma} {be : Array Value} (h : Fr W w m a be) (hb : Below w.heap.size w w') : Fr W w' m a be := ⟨h.mat.on hb, h.be.on hb, h.bel.trans (hb.mono h.bel.size)⟩
theorem Fr.mk' (W : World) (m : Mx.M) (a : Ma) (be rs : Array Value) : Fr W (((W.alloc (.cells (mCs m a) 27)).alloc (.cells be 36)).alloc (.cells rs 30)) m a be ∧ RowT 30 (((W.alloc (.cells (mCs m a) 27)).alloc (.cells be 36)).alloc (.cells rs 30)) (W.heap.size + 2) rs := by
  have s1 : (W.alloc (.cells (mCs m a) 27)).heap.size = W.heap.size + 1 := by simp
  have s2 : ((W.alloc (.cells (mCs m a) 27)).alloc (.cells be 36)).heap.size = W.heap.size + 2 := by simp
  have b1 := (Below.refl W.heap.size W).alloc (Nat.le_refl _) (.cells (mCs m a) 27)
  have b2 : Below (W.alloc (.cells (mCs m a) 27)).heap.size (W.alloc (.cells (mCs m a) 27)) ((W.alloc (.cells (mCs m a) 27)).alloc (.cells be 36)) := (Below.refl _ _).alloc (Nat.le_refl _) _
  have b3 : Below ((W.alloc (.cells (mCs m a) 27)).alloc (.cells be 36)).heap.size ((W.alloc (.cells (mCs m a) 27)).alloc (.cells be 36)) (((W.alloc (.cells (mCs m a) 27)).alloc (.cells be 36)).alloc (.cells rs 30)) := (Below.refl _ _).alloc (Nat.le_refl _) _
  refine ⟨⟨((RowT.new 27 W (mCs m a)).on b2).on b3, ?_, (b1.trans (b2.mono b1.size)).trans (b3.mono (by omega))⟩, ?_⟩
  · have := RowT.new 36 (W.alloc (.cells (mCs m a) 27)) be
    rw [s1] at this
    exact this.on b3
  · have := RowT.new 30 ((W.alloc (.cells (mCs m a) 27)).alloc (.cells be 36)) rs
    rwa [s2] at this
theorem Fr.row {W w : World} {m : Mx.M} {a : Ma} {be : Array Value} (h : Fr W w m a be) (cs : Array Value) : Fr W (w.setRow (W.heap.size + 2) cs) m a be :=
  ⟨(setRow_other _ _ _ _ (by omega)).trans h.mat, (setRow_other _ _ _ _ (by omega)).trans h.be, below_setRow h.bel (by omega) _⟩
theorem finfo21b : (Tryd.prog.info? 30).map (·.size) = some 4 := by kernel_rfl
theorem or_ref {r k : Nat} (h1 : r % 8 = 0) (h2 : r < 2048) (h3 : k < 4) : bits .or .u32 (r : Int) (IntKind.u32.wrap (k : Int)) = ((r + k : Nat) : Int) := by
  have e : IntKind.u32.wrap (k : Int) = (k : Int) := by rw [IntKind.wrap_u32]; omega
  obtain ⟨q, rfl⟩ : ∃ q, r = 8 * q := ⟨r / 8, by omega⟩
  have e2 : 8 * q + k = 8 * q ||| k := Nat.two_pow_add_eq_or_of_lt (i := 3) (b := k) (by omega) q
  rw [e, u32_or_nat _ _ (by omega) (by omega), e2]
set_option maxRecDepth 100000 in
set_option maxHeartbeats 4000000 in
theorem rf_frame (W : World) (m : Mx.M) (a : Ma) (rk ck g : Nat) (d : Bool) (h1 : m.ref % 8 = 0) (h2 : m.ref < 2048) (h3 : rk < 4) (hc : ck < 256) (hg : g < 65536) : Calls Tryd.prog 19 #[mV m a, .agg (beC rk ck g d)] W fun e w' => e = .returned (.agg #[.bool false, .int .u32 ((m.ref + rk : Nat) : Int), .bool false, .string ⟨(beD m.level ck g d).toArray⟩]) ∧ Below W.heap.size W w' := by
  have HF : Hid (∀ rs, Fr W (((W.alloc (.cells (mCs m a) 27)).alloc (.cells (beC rk ck g d) 36)).alloc (.cells rs 30)) m a (beC rk ck g d)) := fun rs => (Fr.mk' W m a _ rs).1
  have HR : Hid (∀ rs, RowT 30 (((W.alloc (.cells (mCs m a) 27)).alloc (.cells (beC rk ck g d) 36)).alloc (.cells rs 30)) (W.heap.size + 2) rs) := fun rs => (Fr.mk' W m a _ rs).2
  have HD : Hid (∀ w, Calls Tryd.prog 32 #[.int .i64 m.level, .agg (beC rk ck g d)] w fun e w' => e = .returned (.string ⟨(beD m.level ck g d).toArray⟩) ∧ Below w.heap.size w w') := fun w => rf_data w m.level rk ck g d hc hg
  have HOr : Hid (bits .or .u32 (m.ref : Int) (IntKind.u32.wrap (rk : Int)) = ((m.ref + rk : Nat) : Int)) := or_ref h1 h2 h3
  have hrk : (rk : Int) < 4 := by omega
  generalize (⟨(beD m.level ck g d).toArray⟩ : ByteArray) = ds at *
  clear h1 h2 h3 hc hg
  show Calls _ _ #[.agg (mCs m a), _] _ _
  go_enter Tryd.func19, Tryd.ntmps19
  go_upto_region 1 with fail
  refine wp_region_held_drew (S := fun w' => Fr W w' m a (beC rk ck g d)) (by kernel_rfl) ((HF.out _).on (Below.refl _ _).drew) (fun hHeld => ?_)
  have HR0 : Hid (RowT 30 _ _ _) := (HR.out #[.bool false, .int .u32 0, .bool false, .string ⟨#[]⟩]).on (Below.refl _ _).drew
  clear HR HF
  generalize ((((W.alloc (.cells (mCs m a) 27)).alloc (.cells (beC rk ck g d) 36)).alloc (.cells #[.bool false, .int .u32 0, .bool false, .string ⟨#[]⟩] 30))).drew = v0 at HR0 hHeld ⊢
  refine Hl.takeL (i := 0) (d := 5) (v := ?_) rfl (by kernel_rfl) (by kernel_rfl) (by kernel_rfl) (fun _ _ _ h => h) (by rfl) ?_ (by first | assumption | trivial) ?_
  rotate_left
  · intro w hSw; skip; go_simp; (try with_reducible rfl)
  simp only [Act.put, List.setIfInBounds_toArray, List.set_cons_zero, List.set_cons_succ]
  refine Hl.takeL (i := 1) (d := 6) (v := ?_) rfl (by kernel_rfl) (by kernel_rfl) (by kernel_rfl) (fun _ _ _ h => h) (by rfl) ?_ (by first | assumption | trivial) ?_
  rotate_left
  · intro w hSw; obtain ⟨z0, z1, z2, z3, z4, z5, z6, z7, z8, z9, z10⟩ := hSw.mat.mat; go_simp; (try with_reducible rfl)
  simp only [Act.put, List.setIfInBounds_toArray, List.set_cons_zero, List.set_cons_succ]
  refine Hl.takeL (i := 2) (d := 7) (v := ?_) rfl (by kernel_rfl) (by kernel_rfl) (by kernel_rfl) (fun _ _ _ h => h) (by rfl) ?_ (by first | assumption | trivial) ?_
  rotate_left
  · intro w hSw; skip; go_simp; (try with_reducible rfl)
  simp only [Act.put, List.setIfInBounds_toArray, List.set_cons_zero, List.set_cons_succ]
  refine Hl.takeL (i := 3) (d := 8) (v := ?_) rfl (by kernel_rfl) (by kernel_rfl) (by kernel_rfl) (fun _ _ _ h => h) (by rfl) ?_ (by first | assumption | trivial) ?_
  rotate_left
  · intro w hSw; have z0 : w.cell? ⟨W.heap.size + 1, 0, none⟩ = some (.int .i64 (rk : Int)) := hSw.be.c 0 _ rfl; have z1 : w.cell? ⟨W.heap.size + 1, 1, none⟩ = some (.int .i64 (ck : Int)) := hSw.be.c 1 _ rfl; have z2 : w.cell? ⟨W.heap.size + 1, 2, none⟩ = some (.int .u16 (g : Int)) := hSw.be.c 2 _ rfl; have z3 : w.cell? ⟨W.heap.size + 1, 3, none⟩ = some (.bool d) := hSw.be.c 3 _ rfl; go_simp; (try with_reducible rfl)
  simp only [Act.put, List.setIfInBounds_toArray, List.set_cons_zero, List.set_cons_succ]
  refine Hl.takeL (i := 4) (d := 9) (v := ?_) rfl (by kernel_rfl) (by kernel_rfl) (by kernel_rfl) (fun _ _ _ h => h) (by rfl) ?_ (by first | assumption | trivial) ?_
  rotate_left
  · intro w hSw; skip; go_simp; (try with_reducible rfl)
  simp only [Act.put, List.setIfInBounds_toArray, List.set_cons_zero, List.set_cons_succ]
  refine Hl.takeL (i := 6) (d := 11) (v := ?_) rfl (by kernel_rfl) (by kernel_rfl) (by kernel_rfl) (fun _ _ _ h => h) (by rfl) ?_ (by first | assumption | trivial) ?_
  rotate_left
  · intro w hSw; skip; go_simp; (try with_reducible rfl)
  simp only [Act.put, List.setIfInBounds_toArray, List.set_cons_zero, List.set_cons_succ]
  refine Hl.takeL (i := 7) (d := 12) (v := ?_) rfl (by kernel_rfl) (by kernel_rfl) (by kernel_rfl) (fun _ _ _ h => h) (by rfl) ?_ (by first | assumption | trivial) ?_
  rotate_left
  · intro w hSw; obtain ⟨z0, z1, z2, z3, z4, z5, z6, z7, z8, z9, z10⟩ := hSw.mat.mat; go_simp; (try with_reducible rfl)
  simp only [Act.put, List.setIfInBounds_toArray, List.set_cons_zero, List.set_cons_succ]
  refine Hl.takeL (i := 8) (d := 13) (v := ?_) rfl (by kernel_rfl) (by kernel_rfl) (by kernel_rfl) (fun _ _ _ h => h) (by rfl) ?_ (by first | assumption | trivial) ?_
  rotate_left
  · intro w hSw; have z0 : w.cell? ⟨W.heap.size + 1, 0, none⟩ = some (.int .i64 (rk : Int)) := hSw.be.c 0 _ rfl; have z1 : w.cell? ⟨W.heap.size + 1, 1, none⟩ = some (.int .i64 (ck : Int)) := hSw.be.c 1 _ rfl; have z2 : w.cell? ⟨W.heap.size + 1, 2, none⟩ = some (.int .u16 (g : Int)) := hSw.be.c 2 _ rfl; have z3 : w.cell? ⟨W.heap.size + 1, 3, none⟩ = some (.bool d) := hSw.be.c 3 _ rfl; go_simp; (try with_reducible rfl)
  simp only [Act.put, List.setIfInBounds_toArray, List.set_cons_zero, List.set_cons_succ]
  refine Hl.takeL (i := 5) (d := 10) (v := ?_) rfl (by kernel_rfl) (by kernel_rfl) (by kernel_rfl) (fun _ _ _ h => h) (by rfl) ?_ (by first | assumption | trivial) ?_
  rotate_left
  · intro w hSw; skip; go_simp; (try with_reducible rfl)
  simp only [Act.put, List.setIfInBounds_toArray, List.set_cons_zero, List.set_cons_succ]
  rw [HOr.out]
  clear HOr
  refine Hl.consL (i := 9) rfl (by kernel_rfl) (fun K' hK' => ?_)
  go_simp
  go_at_call 32
  refine (HD.out _).mono ?_
  rintro e w9 ⟨rfl, hb9⟩
  go_simp
  have HF9 : Hid (Fr W w9 m a (beC rk ck g d)) := hHeld.on hb9
  have HR9 : Hid (RowT 30 w9 _ _) := HR0.out.on hb9
  refine hK'.out _ _ HF9.out (fun hHeld => ?_)
  clear hK' K' hb9 HR0 HD
  try simp only [Act.put, List.setIfInBounds_toArray, List.set_cons_zero, List.set_cons_succ]
  refine Hl.takeL (i := 10) (d := 15) (v := ?_) rfl (by kernel_rfl) (by kernel_rfl) (by kernel_rfl) (fun _ _ _ h => h) (by rfl) ?_ (by first | assumption | trivial) ?_
  rotate_left
  · intro w hSw; skip; go_simp; (try with_reducible rfl)
  simp only [Act.put, List.setIfInBounds_toArray, List.set_cons_zero, List.set_cons_succ]
  refine Hl.consL (i := 11) rfl (by kernel_rfl) (fun K' hK' => ?_)
  refine Hl.step_store_row rfl 30 (.tmp 4) (.tmp 15) rfl (W.heap.size + 2) #[.bool false, .int .u32 ((m.ref + rk : Nat) : Int), .bool false, .string ds] rfl rfl 30 _ HR9.out finfo21b rfl (by simp [Value.oneCell']) ?_
  have HRn : Hid (RowT 30 (w9.setRow (W.heap.size + 2) #[.bool false, .int .u32 ((m.ref + rk : Nat) : Int), .bool false, .string ds]) (W.heap.size + 2) #[.bool false, .int .u32 ((m.ref + rk : Nat) : Int), .bool false, .string ds]) := setRow_heap _ _ _ _ _ _ HR9.out
  have HFn := HF9.out.row #[.bool false, .int .u32 ((m.ref + rk : Nat) : Int), .bool false, .string ds]
  refine hK'.out _ _ HFn (fun hHeld => ?_)
  clear hK' K' hHeld HF9 HR9
  generalize w9.setRow (W.heap.size + 2) #[.bool false, .int .u32 ((m.ref + rk : Nat) : Int), .bool false, .string ds] = wn at HRn HFn ⊢
  refine wpAnyH_done (by kernel_rfl) ?_ _
  have c0 : wn.cell? ⟨W.heap.size + 2, 0, none⟩ = some (.bool false) := HRn.out.c 0 _ rfl
  have c1 : wn.cell? ⟨W.heap.size + 2, 1, none⟩ = some (.int .u32 ((m.ref + rk : Nat) : Int)) := HRn.out.c 1 _ rfl
  have c2 : wn.cell? ⟨W.heap.size + 2, 2, none⟩ = some (.bool false) := HRn.out.c 2 _ rfl
  have c3 : wn.cell? ⟨W.heap.size + 2, 3, none⟩ = some (.string ds) := HRn.out.c 3 _ rfl
  go_wp2_with fail
  exact bodyPost_ret (v := .agg #[.bool false, .int .u32 ((m.ref + rk : Nat) : Int), .bool false, .string ds]) (by simp [results, Tryd.results19, go_sem, c0, c1, c2, c3]) rfl ⟨rfl, HFn.bel⟩
theorem run_copy_cut {P : Program} (w : World) (dT sT ty elem : TypeId) (g off dLen dCap : Nat) (t : ByteArray) (cur : List Value) (k : TypeId)
    (hu : P.underlying dT = some (.slice elem)) (hs : (P.info? elem).map (·.size) = some 1) (hg : w.heap[g]? = some (.cells cur.toArray k (0, 0))) (hfit : off + dLen ≤ cur.length) :
    (Builtin.copy_ #[dT, sT] ty #[.slice (some ⟨g, off, none⟩) dLen dCap, .string t]).run P w = .ok (goInt (Nat.min t.size dLen)) (w.setRow g (splice cur off (Bm.cellsOf (t.data.toList.take (Nat.min t.size dLen)))).toArray) := by
  have hl : (Bm.cellsOf (t.data.toList.take (Nat.min t.size dLen))).length = Nat.min t.size dLen := by
    rw [Bm.length_cellsOf, List.length_take]
    have : t.data.toList.length = t.size := by simp
    rw [this]
    exact Nat.min_eq_left (Nat.min_le_left _ _)
  have hle : Nat.min t.size dLen ≤ dLen := Nat.min_le_right _ _
  have hst := run_storeCells_at P g off k (Bm.cellsOf (t.data.toList.take (Nat.min t.size dLen))) 0 cur.toArray w hg (by simp [hl]; omega) (Bm.oneCell_cellsOf _)
  cases hq : P.info? elem with
  | none => simp [hq] at hs
  | some i =>
    simp [Builtin.copy_, run_underlying hu, Builtin.lenOf, Builtin.firstCells, sizeOf, typeInfo, hq]
    have e : List.take (Nat.min t.size dLen) (List.map (fun x : UInt8 => Value.int .u8 (x.toNat : Int)) t.data.toList) = Bm.cellsOf (t.data.toList.take (Nat.min t.size dLen)) := by rw [← List.map_take]; rfl
    first
      | (rw [e, hst]; simp [splice, Result.andThen])
      | (show (Result.andThen _ _) = _; rw [e, hst]; simp [splice, Result.andThen])
theorem Hl.step_copy_cut {P : Program} {ops : Array Oper} {o : Oper} {a : Act} {w : World} {K : Act → World → Prop} {Q : Exit → Act → World → Prop} {E : Prop} (hgd : o.guard = none) (d s : Operand) (dT sT : TypeId)
    (ho : o.op = .call { callee := .builtin .copy, args := #[d, s], argTypes := #[dT, sT] }) (elem : TypeId) (hu : P.underlying dT = some (.slice elem)) (hsz : (P.info? elem).map (·.size) = some 1)
    (g off dLen dCap : Nat) (t : ByteArray) (hd : a.eval d = .slice (some ⟨g, off, none⟩) dLen dCap) (hs : a.eval s = .string t)
    (cur : List Value) (k : TypeId) (hg : w.heap[g]? = some (.cells cur.toArray k (0, 0))) (hfit : off + dLen ≤ cur.length)
    (h : K (a.put o.dst (goInt (Nat.min t.size dLen))) (w.setRow g (splice cur off (Bm.cellsOf (t.data.toList.take (Nat.min t.size dLen)))).toArray)) :
    if Region.wanted o (yielded ops a.tmps) = true then Oper.wp P o a w K Q else E := by
  have hw : Region.wanted o (yielded ops a.tmps) = true := by simp [Region.wanted, hgd]
  rw [if_pos hw]
  have hrun := run_copy_cut (P := P) w dT sT o.type elem g off dLen dCap t cur k hu hsz hg hfit
  unfold Oper.wp
  simp [execOp, ho, resolve, invoke, builtin, hd, hs, hrun, Result.andThen]
  exact h
/-- The first four bytes as they lie. -/
def arC (d : ByteArray) : Array Value := #[.int .u8 (Q21.byte d 0 : Int), .int .u8 (Q21.byte d 1 : Int), .int .u8 (Q21.byte d 2 : Int), .int .u8 (Q21.byte d 3 : Int)]
theorem arC_eq (d : ByteArray) : (splice [.int .u8 0, .int .u8 0, .int .u8 0, .int .u8 0] 0 (Bm.cellsOf (d.data.toList.take (Nat.min d.size 4)))).toArray = arC d := by
  obtain ⟨⟨l⟩⟩ := d
  have hs : (⟨⟨l⟩⟩ : ByteArray).size = l.length := rfl
  rw [hs]
  match l with
  | [] => rfl
  | [_] => rfl
  | [_, _] => rfl
  | [_, _, _] => rfl
  | x0 :: x1 :: x2 :: x3 :: t =>
    have e : Nat.min (x0 :: x1 :: x2 :: x3 :: t).length 4 = 4 := Nat.min_eq_right (by simp)
    rw [e]
    rfl
/-- What a frame is read by: the matrix, the frame, the result's block, the row. -/
structure Rd (W w : World) (m : Mx.M) (a : Ma) (fc rs : Array Value) : Prop where
  mat : RowT 27 w W.heap.size (mCs m a)
  fr : RowT 30 w (W.heap.size + 1) fc
  res : RowT 36 w (W.heap.size + 2) rs
  bel : Below W.heap.size W w
theorem Rd.on {W w w' : World} {m : Mx.M} {a : Ma} {fc rs : Array Value} (h : Rd W w m a fc rs) (hb : Below w.heap.size w w') : Rd W w' m a fc rs := ⟨h.mat.on hb, h.fr.on hb, h.res.on hb, h.bel.trans (hb.mono h.bel.size)⟩
theorem Rd.mk' (W : World) (m : Mx.M) (a : Ma) (fc rs ac : Array Value) : Rd W ((((W.alloc (.cells (mCs m a) 27)).alloc (.cells fc 30)).alloc (.cells rs 36)).alloc (.cells ac 66)) m a fc rs ∧ RowT 66 ((((W.alloc (.cells (mCs m a) 27)).alloc (.cells fc 30)).alloc (.cells rs 36)).alloc (.cells ac 66)) (W.heap.size + 3) ac := by
  have s1 : (W.alloc (.cells (mCs m a) 27)).heap.size = W.heap.size + 1 := by simp
  have s2 : ((W.alloc (.cells (mCs m a) 27)).alloc (.cells fc 30)).heap.size = W.heap.size + 2 := by simp
  have s3 : (((W.alloc (.cells (mCs m a) 27)).alloc (.cells fc 30)).alloc (.cells rs 36)).heap.size = W.heap.size + 3 := by simp
  have b1 := (Below.refl W.heap.size W).alloc (Nat.le_refl _) (.cells (mCs m a) 27)
  have b2 : Below (W.alloc (.cells (mCs m a) 27)).heap.size (W.alloc (.cells (mCs m a) 27)) ((W.alloc (.cells (mCs m a) 27)).alloc (.cells fc 30)) := (Below.refl _ _).alloc (Nat.le_refl _) _
  have b3 : Below ((W.alloc (.cells (mCs m a) 27)).alloc (.cells fc 30)).heap.size ((W.alloc (.cells (mCs m a) 27)).alloc (.cells fc 30)) (((W.alloc (.cells (mCs m a) 27)).alloc (.cells fc 30)).alloc (.cells rs 36)) := (Below.refl _ _).alloc (Nat.le_refl _) _
  have b4 : Below (((W.alloc (.cells (mCs m a) 27)).alloc (.cells fc 30)).alloc (.cells rs 36)).heap.size (((W.alloc (.cells (mCs m a) 27)).alloc (.cells fc 30)).alloc (.cells rs 36)) ((((W.alloc (.cells (mCs m a) 27)).alloc (.cells fc 30)).alloc (.cells rs 36)).alloc (.cells ac 66)) := (Below.refl _ _).alloc (Nat.le_refl _) _
  refine ⟨⟨(((RowT.new 27 W (mCs m a)).on b2).on b3).on b4, ?_, ?_, ((b1.trans (b2.mono b1.size)).trans (b3.mono (by omega))).trans (b4.mono (by omega))⟩, ?_⟩
  · have := RowT.new 30 (W.alloc (.cells (mCs m a) 27)) fc
    rw [s1] at this
    exact (this.on b3).on b4
  · have := RowT.new 36 ((W.alloc (.cells (mCs m a) 27)).alloc (.cells fc 30)) rs
    rw [s2] at this
    exact this.on b4
  · have := RowT.new 66 (((W.alloc (.cells (mCs m a) 27)).alloc (.cells fc 30)).alloc (.cells rs 36)) ac
    rwa [s3] at this
theorem Rd.row {W w : World} {m : Mx.M} {a : Ma} {fc rs : Array Value} (h : Rd W w m a fc rs) (cs : Array Value) : Rd W (w.setRow (W.heap.size + 3) cs) m a fc rs :=
  ⟨(setRow_other _ _ _ _ (by omega)).trans h.mat, (setRow_other _ _ _ _ (by omega)).trans h.fr, (setRow_other _ _ _ _ (by omega)).trans h.res, below_setRow h.bel (by omega) _⟩
theorem binfo21b : (Tryd.prog.info? 36).map (·.size) = some 4 := by kernel_rfl
theorem byte_lt (d : ByteArray) (i : Nat) : Q21.byte d i < 256 := by
  unfold Q21.byte
  cases d.data[i]? with
  | none => exact (by decide : (0 : Nat) < 256)
  | some b => exact b.toNat_lt
set_option maxRecDepth 100000 in
set_option maxHeartbeats 4000000 in
theorem rf_read (W : World) (m : Mx.M) (a : Ma) (x : Bool) (n : Nat) (r : Bool) (d : ByteArray) (h1 : m.ref < 4294967296) (h2 : n < 4294967296) : Calls Tryd.prog 21 #[mV m a, .agg #[.bool x, .int .u32 (n : Int), .bool r, .string d]] W fun e w' => e = .returned (.agg (beC (((n + 4294967296 - m.ref) % 4294967296 : Nat) : Int) (Q21.byte d 0 : Int) (Q21.byte d 2 * 256 + Q21.byte d 3) (Q21.byte d 1 == 1))) ∧ Below W.heap.size W w' := by
  have HF : Hid (∀ rs ac, let fc : Array Value := #[.bool x, .int .u32 (n : Int), .bool r, .string d]; Rd W ((((W.alloc (.cells (mCs m a) 27)).alloc (.cells fc 30)).alloc (.cells rs 36)).alloc (.cells ac 66)) m a #[.bool x, .int .u32 (n : Int), .bool r, .string d] rs) := fun rs ac => (Rd.mk' W m a _ rs ac).1
  have HR : Hid (∀ rs ac, let fc : Array Value := #[.bool x, .int .u32 (n : Int), .bool r, .string d]; RowT 66 ((((W.alloc (.cells (mCs m a) 27)).alloc (.cells fc 30)).alloc (.cells rs 36)).alloc (.cells ac 66)) (W.heap.size + 3) ac) := fun rs ac => (Rd.mk' W m a _ rs ac).2
  obtain ⟨BE, hBE⟩ : ∃ BE, beC (((n + 4294967296 - m.ref) % 4294967296 : Nat) : Int) (Q21.byte d 0 : Int) (Q21.byte d 2 * 256 + Q21.byte d 3) (Q21.byte d 1 == 1) = BE := ⟨_, rfl⟩
  rw [hBE]
  have HBE : Hid (beC (((n + 4294967296 - m.ref) % 4294967296 : Nat) : Int) (Q21.byte d 0 : Int) (Q21.byte d 2 * 256 + Q21.byte d 3) (Q21.byte d 1 == 1) = BE) := hBE
  clear hBE
  show Calls _ _ #[.agg (mCs m a), _] _ _
  go_enter Tryd.func21, Tryd.ntmps21
  go_upto_region 2 with fail
  have HF0 := HF.out #[.int .i64 0, .int .i64 0, .int .u16 0, .bool false] #[.int .u8 0, .int .u8 0, .int .u8 0, .int .u8 0]
  have HR0 := HR.out #[.int .i64 0, .int .i64 0, .int .u16 0, .bool false] #[.int .u8 0, .int .u8 0, .int .u8 0, .int .u8 0]
  dsimp only at HF0 HR0
  refine wp_region_held_drew (S := fun w' => Rd W w' m a #[.bool x, .int .u32 (n : Int), .bool r, .string d] #[.int .i64 0, .int .i64 0, .int .u16 0, .bool false] ∧ True) (by kernel_rfl) ⟨HF0.on (Below.refl _ _).drew, trivial⟩ (fun hHeld => ?_)
  have HRa : Hid (RowT 66 _ _ _) := HR0.on (Below.refl _ _).drew
  clear HR HF HF0 HR0
  generalize World.drew _ = v0 at HRa hHeld ⊢
  refine Hl.takeL (i := 0) (d := 6) (v := ?_) rfl (by kernel_rfl) (by kernel_rfl) (by kernel_rfl) (fun _ _ _ h => h) (by rfl) ?_ (by first | assumption | trivial) ?_
  rotate_left
  · intro w hSw; skip; go_simp; (try with_reducible rfl)
  try simp only [Act.put, List.setIfInBounds_toArray, List.set_cons_zero, List.set_cons_succ]
  refine Hl.takeL (i := 1) (d := 7) (v := ?_) rfl (by kernel_rfl) (by kernel_rfl) (by kernel_rfl) (fun _ _ _ h => h) (by rfl) ?_ (by first | assumption | trivial) ?_
  rotate_left
  · intro w hSw; skip; go_simp; (try with_reducible rfl)
  try simp only [Act.put, List.setIfInBounds_toArray, List.set_cons_zero, List.set_cons_succ]
  refine Hl.takeL (i := 2) (d := 8) (v := ?_) rfl (by kernel_rfl) (by kernel_rfl) (by kernel_rfl) (fun _ _ _ h => h) (by rfl) ?_ (by first | assumption | trivial) ?_
  rotate_left
  · intro w hSw; have z3 : w.cell? ⟨W.heap.size + 1, 3, none⟩ = some (.string d) := hSw.1.fr.c 3 _ rfl; go_simp; (try with_reducible rfl)
  try simp only [Act.put, List.setIfInBounds_toArray, List.set_cons_zero, List.set_cons_succ]
  refine Hl.consL (i := 3) rfl (by kernel_rfl) (fun K' hK' => ?_)
  refine Hl.step_copy_cut rfl (.tmp 6) (.tmp 8) 51 9 rfl 5 Tryd.underlying51 (by kernel_rfl) (W.heap.size + 3) 0 4 4 d rfl rfl [.int .u8 0, .int .u8 0, .int .u8 0, .int .u8 0] 66 HRa.out (by simp) ?_
  rw [arC_eq]
  have HRn : Hid (RowT 66 (v0.setRow (W.heap.size + 3) (arC d)) (W.heap.size + 3) (arC d)) := setRow_heap _ _ _ _ _ _ HRa.out
  have HFn : Hid (Rd W (v0.setRow (W.heap.size + 3) (arC d)) m a #[.bool x, .int .u32 (n : Int), .bool r, .string d] #[.int .i64 0, .int .i64 0, .int .u16 0, .bool false]) := hHeld.1.row _
  refine hK'.out _ _ ⟨HFn.out, trivial⟩ (fun hHeld => ?_)
  clear hK' K' hHeld HRa
  generalize v0.setRow (W.heap.size + 3) (arC d) = v1 at HRn HFn ⊢
  refine wpAnyH_done (by kernel_rfl) ?_ _
  have m7 : v1.cell? ⟨W.heap.size, 7, none⟩ = some (.int .u32 (m.ref : Int)) := HFn.out.mat.mat.2.2.2.2.2.2.2.1
  have n1 : v1.cell? ⟨W.heap.size + 1, 1, none⟩ = some (.int .u32 (n : Int)) := HFn.out.fr.c 1 _ rfl
  have a0 : v1.cell? ⟨W.heap.size + 1 + 1 + 1, 0, none⟩ = some (.int .u8 (Q21.byte d 0 : Int)) := HRn.out.c 0 _ rfl
  have a1 : v1.cell? ⟨W.heap.size + 1 + 1 + 1, 1, none⟩ = some (.int .u8 (Q21.byte d 1 : Int)) := HRn.out.c 1 _ rfl
  have a2 : v1.cell? ⟨W.heap.size + 1 + 1 + 1, 2, none⟩ = some (.int .u8 (Q21.byte d 2 : Int)) := HRn.out.c 2 _ rfl
  have a3 : v1.cell? ⟨W.heap.size + 1 + 1 + 1, 3, none⟩ = some (.int .u8 (Q21.byte d 3 : Int)) := HRn.out.c 3 _ rfl
  have HRs : Hid (RowT 36 v1 (W.heap.size + 1 + 1) #[.int .i64 0, .int .i64 0, .int .u16 0, .bool false]) := HFn.out.res
  have HBl : Hid (Below W.heap.size W v1) := HFn.out.bel
  have g0 : (Q21.byte d 0 : Int) < 256 := by have := byte_lt d 0; omega
  have g1 : (Q21.byte d 1 : Int) < 256 := by have := byte_lt d 1; omega
  have g2 : (Q21.byte d 2 : Int) < 256 := by have := byte_lt d 2; omega
  have g3 : (Q21.byte d 3 : Int) < 256 := by have := byte_lt d 3; omega
  generalize Q21.byte d 0 = b0 at *
  generalize Q21.byte d 1 = b1 at *
  generalize Q21.byte d 2 = b2 at *
  generalize Q21.byte d 3 = b3 at *
  clear HFn HRn
  have hbe : (beC (((n + 4294967296 - m.ref) % 4294967296 : Nat) : Int) (b0 : Int) (b2 * 256 + b3) (b1 == 1)) = #[.int .i64 (((n : Int) - (m.ref : Int)) % 4294967296), .int .i64 (b0 : Int), .int .u16 (bits .or .u16 ((b2 : Int) * 256) (b3 : Int)), .bool ((b1 : Int) == 1)] := by
    have e1 : (((n + 4294967296 - m.ref) % 4294967296 : Nat) : Int) = ((n : Int) - (m.ref : Int)) % 4294967296 := by omega
    have e2 : bits .or .u16 ((b2 : Int) * 256) (b3 : Int) = ((b2 * 256 + b3 : Nat) : Int) := by
      have e4 : ((b2 : Int) * 256) = ((b2 * 256 : Nat) : Int) := by omega
      have e5 := Nat.two_pow_add_eq_or_of_lt (i := 8) (b := b3) (by omega) b2
      have e6 : b2 * 256 ||| b3 = b2 * 256 + b3 := by rw [Nat.mul_comm b2 256]; exact e5.symm
      rw [e4, u16_or_nat _ _ (by omega) (by omega), e6]
    have e3 : ((b1 : Int) == 1) = (b1 == 1) := by
      rw [Bool.eq_iff_iff]
      simp only [beq_iff_eq]
      omega
    unfold beC
    rw [e1, e2, e3]
  replace hbe : Hid (_ = _) := hbe
  go_wp2_with (refine wpList_store_row (P := Tryd.prog) rfl 36 (.tmp 4) (.tmp 30) rfl (W.heap.size + 1 + 1) #[.int .i64 (((n : Int) - (m.ref : Int)) % 4294967296), .int .i64 (b0 : Int), .int .u16 (bits .or .u16 ((b2 : Int) * 256) (b3 : Int)), .bool ((b1 : Int) == 1)] rfl rfl 36 _ HRs.out binfo21b rfl (by simp [Value.oneCell']) ?_)
  have HRe : Hid (RowT 36 (v1.setRow (W.heap.size + 1 + 1) #[.int .i64 (((n : Int) - (m.ref : Int)) % 4294967296), .int .i64 (b0 : Int), .int .u16 (bits .or .u16 ((b2 : Int) * 256) (b3 : Int)), .bool ((b1 : Int) == 1)]) (W.heap.size + 1 + 1) #[.int .i64 (((n : Int) - (m.ref : Int)) % 4294967296), .int .i64 (b0 : Int), .int .u16 (bits .or .u16 ((b2 : Int) * 256) (b3 : Int)), .bool ((b1 : Int) == 1)]) := setRow_heap _ _ _ _ _ _ HRs.out
  have HBe : Hid (Below W.heap.size W (v1.setRow (W.heap.size + 1 + 1) #[.int .i64 (((n : Int) - (m.ref : Int)) % 4294967296), .int .i64 (b0 : Int), .int .u16 (bits .or .u16 ((b2 : Int) * 256) (b3 : Int)), .bool ((b1 : Int) == 1)])) := below_setRow HBl.out (by omega) _
  generalize v1.setRow (W.heap.size + 1 + 1) #[.int .i64 (((n : Int) - (m.ref : Int)) % 4294967296), .int .i64 (b0 : Int), .int .u16 (bits .or .u16 ((b2 : Int) * 256) (b3 : Int)), .bool ((b1 : Int) == 1)] = v2 at HRe HBe ⊢
  have r0 : v2.cell? ⟨W.heap.size + 1 + 1, 0, none⟩ = some (.int .i64 (((n : Int) - (m.ref : Int)) % 4294967296)) := HRe.out.c 0 _ rfl
  have r1 : v2.cell? ⟨W.heap.size + 1 + 1, 1, none⟩ = some (.int .i64 (b0 : Int)) := HRe.out.c 1 _ rfl
  have r2 : v2.cell? ⟨W.heap.size + 1 + 1, 2, none⟩ = some (.int .u16 (bits .or .u16 ((b2 : Int) * 256) (b3 : Int))) := HRe.out.c 2 _ rfl
  have r3 : v2.cell? ⟨W.heap.size + 1 + 1, 3, none⟩ = some (.bool ((b1 : Int) == 1)) := HRe.out.c 3 _ rfl
  clear a0 a1 a2 a3 m7 n1
  go_wp2_with fail
  exact bodyPost_ret (v := .agg #[.int .i64 (((n : Int) - (m.ref : Int)) % 4294967296), .int .i64 (b0 : Int), .int .u16 (bits .or .u16 ((b2 : Int) * 256) (b3 : Int)), .bool ((b1 : Int) == 1)]) (by simp [results, Tryd.results21, go_sem, r0, r1, r2, r3]) rfl ⟨by rw [← HBE.out, hbe.out], HBe.out⟩
theorem rf_neq (w : World) (i n : Int) (x r : Bool) (s d : ByteArray) : (binOp .neq 30 (.agg #[.bool false, .int .u32 i, .bool false, .string s]) (.agg #[.bool x, .int .u32 n, .bool r, .string d])).run Tryd.prog w = .ok (.bool (!(x == false && (i == n && (r == false && decide (s = d)))))) w := by
  have ht : (s.toList = d.toList) ↔ s = d := by
    obtain ⟨⟨x⟩⟩ := s
    obtain ⟨⟨y⟩⟩ := d
    rw [ByteArray.toList_eq, ByteArray.toList_eq]
    simp
  go_simp
  by_cases hi : i = n <;> by_cases hs : s = d <;> cases x <;> cases r <;> simp [hi, hs]
theorem fits_more {m : Mx.M} {rank cycle : Int} (h : Q21.fits m rank cycle = true) : (m.level = 1 ∨ m.level = 2) ∧ m.ref % 8 = 0 := by
  have hi := (Q21.fits_lt h).1
  simp only [Mx.is, Mx.lens, Mx.scal, Mx.within, Mx.power, Bool.and_eq_true, decide_eq_true_eq, beq_iff_eq] at hi
  omega
theorem data_eq {m : Mx.M} {c g : Nat} {d : Bool} (hl : m.level = 1 ∨ m.level = 2) (hc : c < 256) (hg : g < 65536) : Q21.data m c g d = beD m.level c g d := by
  have e1 : Pq.u8 (c : Int) = UInt8.ofNat c := by unfold Pq.u8; rw [show ((c : Int) % 256).toNat = c from by omega]
  have e2 : Pq.u8 ((g : Int) / 256) = UInt8.ofNat (g / 256) := by unfold Pq.u8; rw [show ((g : Int) / 256 % 256).toNat = g / 256 from by omega]
  have e3 : Pq.u8 (g : Int) = UInt8.ofNat (g % 256) := by unfold Pq.u8; rw [show ((g : Int) % 256).toNat = g % 256 from by omega]
  unfold Q21.data beD
  rw [e1, e2, e3]
  rcases hl with h | h <;> rw [h] <;> rfl
theorem build_some {m : Mx.M} {rk ck g : Nat} {d : Bool} (h : Q21.fits m rk ck = true) (hg : g < 65536) : Q21.build m rk ck g d = some (m.ref + rk, ⟨(beD m.level ck g d).toArray⟩) := by
  obtain ⟨_, _, h2, _, h3, h4, h5, _⟩ := Q21.fits_lt h
  unfold Q21.build
  rw [if_pos h, data_eq (fits_more h).1 (by omega) hg, Int.toNat_natCast]
/-- The only beat that a frame may be of. -/
def ofF (m : Mx.M) (n : Nat) (d : ByteArray) : Q21.Bt := ⟨((n + 4294967296 - m.ref) % 4294967296 : Nat), Q21.byte d 0, Q21.byte d 2 * 256 + Q21.byte d 3, Q21.byte d 1 == 1⟩
theorem parse_some {m : Mx.M} {x : Bool} {n : Nat} {r : Bool} {d : ByteArray} (hr : m.ref < 4294967296) (hn : n < 4294967296) {t : Q21.Bt} (h : Q21.parse m x n r d = some t) :
    t = ofF m n d ∧ Q21.fits m (ofF m n d).rank (ofF m n d).cycle = true ∧ x = false ∧ r = false ∧ m.ref + (ofF m n d).rank.toNat = n ∧ (⟨(beD m.level (Q21.byte d 0) (ofF m n d).glob (ofF m n d).disc).toArray⟩ : ByteArray) = d := by
  unfold Q21.parse at h
  split at h
  · rename_i hc
    split at h
    · rename_i hb
      injection h with h
      subst h
      simp only [Bool.and_eq_true, Bool.not_eq_true', decide_eq_true_eq] at hc
      obtain ⟨hi, hx, hrr, hle, hsz⟩ := hc
      have hg : (Q21.told m n d).glob < 65536 := by
        unfold Q21.told
        have := byte_lt d 2
        have := byte_lt d 3
        split
        · show _ * 256 + _ < 65536; omega
        · exact (by decide : (0 : Nat) < 65536)
      have hrk : (Q21.told m n d).rank = ((n - m.ref : Nat) : Int) := by unfold Q21.told; split <;> rfl
      have hck : (Q21.told m n d).cycle = (Q21.byte d 0 : Int) := by unfold Q21.told; split <;> rfl
      rw [hrk, hck] at hb
      cases hf : Q21.fits m ((n - m.ref : Nat) : Int) (Q21.byte d 0 : Int) with
      | false => unfold Q21.build at hb; rw [hf] at hb; simp at hb
      | true =>
        obtain ⟨_, _, h4, _, _, h5, h6, h7⟩ := Q21.fits_lt hf
        obtain ⟨hl, h8⟩ := fits_more hf
        rw [build_some hf hg] at hb
        injection hb with hb
        injection hb with hb1 hb2
        have hR : ((n + 4294967296 - m.ref) % 4294967296 : Nat) = n - m.ref := by omega
        have ht : Q21.told m n d = ofF m n d := by
          unfold ofF Q21.told
          rw [hR]
          rcases hl with hl | hl
          · rw [if_neg (by omega)]
            rw [hl] at hb2
            have hd : d = ⟨#[UInt8.ofNat (Q21.byte d 0)]⟩ := hb2.symm
            have b1 : Q21.byte d 1 = 0 := by rw [hd]; rfl
            have b2 : Q21.byte d 2 = 0 := by rw [hd]; rfl
            have b3 : Q21.byte d 3 = 0 := by rw [hd]; rfl
            rw [b1, b2, b3]
            rfl
          · have hd : d.size = 4 := by rw [← hb2, hl]; rfl
            rw [if_pos ⟨hl, hd⟩]
        have e1 : (ofF m n d).rank = ((n - m.ref : Nat) : Int) := by rw [← ht, hrk]
        have e2 : (ofF m n d).cycle = (Q21.byte d 0 : Int) := rfl
        rw [e1, e2, Int.toNat_natCast]
        refine ⟨ht, hf, hx, hrr, by omega, ?_⟩
        rw [← ht]
        exact hb2
    · cases h
  · cases h
theorem parse_eq (m : Mx.M) (x : Bool) (n : Nat) (r : Bool) (d : ByteArray) (hr : m.ref < 4294967296) (hn : n < 4294967296) :
    Q21.parse m x n r d = if Q21.fits m (ofF m n d).rank (ofF m n d).cycle = true ∧ (x = false ∧ (m.ref + (ofF m n d).rank.toNat = n ∧ (r = false ∧ (⟨(beD m.level (Q21.byte d 0) (ofF m n d).glob (ofF m n d).disc).toArray⟩ : ByteArray) = d))) then some (ofF m n d) else none := by
  split
  · rename_i hc
    obtain ⟨hf, rfl, hn2, rfl, hd⟩ := hc
    obtain ⟨_, h3, h4, _, _, h5, h6, h7⟩ := Q21.fits_lt hf
    obtain ⟨hl, h8⟩ := fits_more hf
    have hrk : (ofF m n d).rank = ((n - m.ref : Nat) : Int) := by omega
    have hg : (ofF m n d).glob < 65536 := by
      have := byte_lt d 2
      have := byte_lt d 3
      show _ * 256 + _ < 65536
      omega
    have hsz : d.size = if m.level = 1 then 1 else 4 := by
      rw [← hd]
      unfold beD
      split <;> rfl
    have ht : Q21.told m n d = ofF m n d := by
      unfold Q21.told
      rcases hl with hl | hl
      · rw [if_neg (by omega)]
        rw [hl] at hd
        have hd : d = ⟨#[UInt8.ofNat (Q21.byte d 0)]⟩ := hd.symm
        have b1 : Q21.byte d 1 = 0 := by rw [hd]; rfl
        have b2 : Q21.byte d 2 = 0 := by rw [hd]; rfl
        have b3 : Q21.byte d 3 = 0 := by rw [hd]; rfl
        unfold ofF
        unfold ofF at hrk
        rw [b1, b2, b3]
        dsimp only at hrk ⊢
        rw [hrk]
        rfl
      · have hs : d.size = 4 := by rw [hsz, hl]; rfl
        rw [if_pos ⟨hl, hs⟩, ← hrk]
        rfl
    unfold Q21.parse
    have hisF : Fm.isF false n false d.data.toList = true := Fm.isF_mk (by show n < 2048; omega) (by
      have : d.data.toList.length = d.size := by simp
      rw [this, hsz]
      split <;> decide) (fun h => by cases h)
    have hle : m.ref ≤ n := by omega
    have hs1 : 1 ≤ d.size := by rw [hsz]; split <;> decide
    have hb : Q21.build m (ofF m n d).rank (ofF m n d).cycle (ofF m n d).glob (ofF m n d).disc = some (n, d) := by
      have e2 : (ofF m n d).cycle = (Q21.byte d 0 : Int) := rfl
      rw [e2, hrk] at hf ⊢
      rw [build_some hf hg, hd]
      congr 2
      omega
    rw [hisF, ht, if_pos (by simp [hle, hs1]), if_pos hb]
  · rename_i hc
    cases hp : Q21.parse m x n r d with
    | none => rfl
    | some t =>
      obtain ⟨_, h1, h2, h3, h4, h5⟩ := parse_some hr hn hp
      exact absurd ⟨h1, h2, h4, h3, h5⟩ hc
/-- A matrix, a result's block, a beat. -/
structure Bd (W w : World) (m : Mx.M) (a : Ma) (rs be : Array Value) : Prop where
  mat : RowT 27 w W.heap.size (mCs m a)
  res : RowT 30 w (W.heap.size + 1) rs
  be : RowT 36 w (W.heap.size + 2) be
  bel : Below W.heap.size W w
theorem Bd.on {W w w' : World} {m : Mx.M} {a : Ma} {rs be : Array Value} (h : Bd W w m a rs be) (hb : Below w.heap.size w w') : Bd W w' m a rs be := ⟨h.mat.on hb, h.res.on hb, h.be.on hb, h.bel.trans (hb.mono h.bel.size)⟩
theorem Bd.mk' (W : World) (m : Mx.M) (a : Ma) (rs be : Array Value) : Bd W (((W.alloc (.cells (mCs m a) 27)).alloc (.cells rs 30)).alloc (.cells be 36)) m a rs be := by
  have s1 : (W.alloc (.cells (mCs m a) 27)).heap.size = W.heap.size + 1 := by simp
  have s2 : ((W.alloc (.cells (mCs m a) 27)).alloc (.cells rs 30)).heap.size = W.heap.size + 2 := by simp
  have b1 := (Below.refl W.heap.size W).alloc (Nat.le_refl _) (.cells (mCs m a) 27)
  have b2 : Below (W.alloc (.cells (mCs m a) 27)).heap.size (W.alloc (.cells (mCs m a) 27)) ((W.alloc (.cells (mCs m a) 27)).alloc (.cells rs 30)) := (Below.refl _ _).alloc (Nat.le_refl _) _
  have b3 : Below ((W.alloc (.cells (mCs m a) 27)).alloc (.cells rs 30)).heap.size ((W.alloc (.cells (mCs m a) 27)).alloc (.cells rs 30)) (((W.alloc (.cells (mCs m a) 27)).alloc (.cells rs 30)).alloc (.cells be 36)) := (Below.refl _ _).alloc (Nat.le_refl _) _
  refine ⟨((RowT.new 27 W (mCs m a)).on b2).on b3, ?_, ?_, (b1.trans (b2.mono b1.size)).trans (b3.mono (by omega))⟩
  · have := RowT.new 30 (W.alloc (.cells (mCs m a) 27)) rs
    rw [s1] at this
    exact this.on b3
  · have := RowT.new 36 ((W.alloc (.cells (mCs m a) 27)).alloc (.cells rs 30)) be
    rwa [s2] at this
theorem Bd.row {W w : World} {m : Mx.M} {a : Ma} {rs be : Array Value} (h : Bd W w m a rs be) (cs : Array Value) : RowT 30 (w.setRow (W.heap.size + 1) cs) (W.heap.size + 1) cs ∧ Below W.heap.size W (w.setRow (W.heap.size + 1) cs) :=
  ⟨setRow_heap _ _ _ _ _ _ h.res, below_setRow h.bel (by omega) _⟩
set_option maxRecDepth 100000 in
set_option maxHeartbeats 4000000 in
theorem rf_build (W : World) (hT : Tab W) (m : Mx.M) (a : Ma) (rank cycle : Int) (g : Nat) (d : Bool) (hm : MIn W m a) (hS : Mx.Small m) (hg : g < 65536) : Calls Tryd.prog 9 #[mV m a, .int .i64 rank, .int .i64 cycle, .int .u16 (g : Int), .bool d] W fun e w' => e = .returned (bV (Q21.build m rank cycle g d)) ∧ Below W.heap.size W w' := by
  have HC : Hid (∀ w b, Below W.heap.size W w → Q21.fits m rank cycle = b → Calls Tryd.prog 18 #[.agg (mCs m a), .agg #[.int .i64 rank, .int .i64 cycle, .int .u16 (g : Int), .bool d]] w fun e w' => e = .returned (.bool b) ∧ Below w.heap.size w w') := fun w b hb e => by subst e; exact rf_can w (hT.below hb) m a rank cycle g d (hm.on hb) hS
  have HB : Hid (Bd W (((W.alloc (.cells (mCs m a) 27)).alloc (.cells #[.bool false, .int .u32 0, .bool false, .string ⟨#[]⟩] 30)).alloc (.cells #[.int .i64 rank, .int .i64 cycle, .int .u16 (g : Int), .bool d] 36)) m a #[.bool false, .int .u32 0, .bool false, .string ⟨#[]⟩] #[.int .i64 rank, .int .i64 cycle, .int .u16 (g : Int), .bool d]) := Bd.mk' W m a _ _
  obtain ⟨R, hR⟩ : ∃ R, Q21.build m rank cycle g d = R := ⟨_, rfl⟩
  rw [hR]
  have HRr : Hid (Q21.build m rank cycle g d = R) := hR
  clear hm hS hT hR
  show Calls _ _ #[.agg (mCs m a), _, _, _, _] _ _
  obtain ⟨x0, x1, x2, x3, x4, x5, x6, x7, x8, x9, x10⟩ := HB.out.mat.mat
  have y0 := HB.out.be.c 0 _ rfl
  have y1 := HB.out.be.c 1 _ rfl
  have y2 := HB.out.be.c 2 _ rfl
  have y3 := HB.out.be.c 3 _ rfl
  go_enter Tryd.func9, Tryd.ntmps9
  go_wp2_with fail
  obtain ⟨b, hb⟩ : ∃ b, Q21.fits m rank cycle = b := ⟨_, rfl⟩
  have HBb : Hid (Q21.fits m rank cycle = b) := hb
  clear hb
  refine (HC.out _ _ HB.out.bel HBb.out).mono ?_
  rintro e w1 ⟨rfl, hb⟩
  clear x0 x1 x2 x3 x4 x5 x6 x7 x8 x9 x10 y0 y1 y2 y3
  replace HB : Hid (Bd W w1 m a _ _) := HB.out.on hb
  have HRs : Hid (RowT 30 w1 (W.heap.size + 1) #[.bool false, .int .u32 0, .bool false, .string ⟨#[]⟩]) := HB.out.res
  clear hb HC
  cases b
  · have HN : Hid (R = none) := by
      show R = none
      rw [← HRr.out]
      unfold Q21.build
      rw [HBb.out]
      rfl
    go_wp2_with (refine wpList_store_row (P := Tryd.prog) rfl 30 (.tmp 10) (.tmp 22) rfl (W.heap.size + 1) #[.bool false, .int .u32 0, .bool false, .string ⟨#[]⟩] rfl rfl 30 _ HRs.out finfo21b rfl (by simp [Value.oneCell']) ?_)
    have HRe : Hid (RowT 30 (w1.setRow (W.heap.size + 1) #[.bool false, .int .u32 0, .bool false, .string ⟨#[]⟩]) (W.heap.size + 1) #[.bool false, .int .u32 0, .bool false, .string ⟨#[]⟩]) := (HB.out.row _).1
    have HBe : Hid (Below W.heap.size W (w1.setRow (W.heap.size + 1) #[.bool false, .int .u32 0, .bool false, .string ⟨#[]⟩])) := (HB.out.row _).2
    generalize w1.setRow (W.heap.size + 1) #[.bool false, .int .u32 0, .bool false, .string ⟨#[]⟩] = v2 at HRe HBe ⊢
    have r0 : v2.cell? ⟨W.heap.size + 1, 0, none⟩ = some (.bool false) := HRe.out.c 0 _ rfl
    have r1 : v2.cell? ⟨W.heap.size + 1, 1, none⟩ = some (.int .u32 0) := HRe.out.c 1 _ rfl
    have r2 : v2.cell? ⟨W.heap.size + 1, 2, none⟩ = some (.bool false) := HRe.out.c 2 _ rfl
    have r3 : v2.cell? ⟨W.heap.size + 1, 3, none⟩ = some (.string ⟨#[]⟩) := HRe.out.c 3 _ rfl
    go_wp2_with fail
    exact bodyPost_ret (v := bV none) (by simp [results, Tryd.results9, go_sem, bV, r0, r1, r2, r3]; rfl) rfl ⟨by rw [HN.out], HBe.out⟩
  · obtain ⟨_, h1, h2, _, h3, h4, h5, h6⟩ := Q21.fits_lt HBb.out
    obtain ⟨rk, rfl⟩ := Int.eq_ofNat_of_zero_le h1
    obtain ⟨ck, rfl⟩ := Int.eq_ofNat_of_zero_le h3
    have HN : Hid (R = some (m.ref + rk, ⟨(beD m.level ck g d).toArray⟩)) := by
      show R = _
      rw [← HRr.out]
      exact build_some HBb.out hg
    have HFr : Hid (∀ w, Calls Tryd.prog 19 #[.agg (mCs m a), .agg #[.int .i64 (rk : Int), .int .i64 (ck : Int), .int .u16 (g : Int), .bool d]] w fun e w' => e = .returned (.agg #[.bool false, .int .u32 ((m.ref + rk : Nat) : Int), .bool false, .string ⟨(beD m.level ck g d).toArray⟩]) ∧ Below w.heap.size w w') := fun w => rf_frame w m a rk ck g d (fits_more HBb.out).2 h6 (by omega) (by omega) hg
    clear h1 h2 h3 h4 h5 h6 HRr HBb
    generalize m.ref + rk = N at *
    generalize (⟨(beD m.level ck g d).toArray⟩ : ByteArray) = ds at *
    obtain ⟨x0, x1, x2, x3, x4, x5, x6, x7, x8, x9, x10⟩ := HB.out.mat.mat
    have y0 := HB.out.be.c 0 _ rfl
    have y1 := HB.out.be.c 1 _ rfl
    have y2 := HB.out.be.c 2 _ rfl
    have y3 := HB.out.be.c 3 _ rfl
    go_wp2_with fail
    refine (HFr.out _).mono ?_
    rintro e w2 ⟨rfl, hb⟩
    clear x0 x1 x2 x3 x4 x5 x6 x7 x8 x9 x10 y0 y1 y2 y3 HRs
    replace HB : Hid (Bd W w2 m a _ _) := HB.out.on hb
    have HRs : Hid (RowT 30 w2 (W.heap.size + 1) #[.bool false, .int .u32 0, .bool false, .string ⟨#[]⟩]) := HB.out.res
    clear hb HFr
    go_wp2_with (refine wpList_store_row (P := Tryd.prog) rfl 30 (.tmp 10) (.tmp 25) rfl (W.heap.size + 1) #[.bool false, .int .u32 (N : Int), .bool false, .string ds] rfl rfl 30 _ HRs.out finfo21b rfl (by simp [Value.oneCell']) ?_)
    have HRe : Hid (RowT 30 (w2.setRow (W.heap.size + 1) #[.bool false, .int .u32 (N : Int), .bool false, .string ds]) (W.heap.size + 1) #[.bool false, .int .u32 (N : Int), .bool false, .string ds]) := (HB.out.row _).1
    have HBe : Hid (Below W.heap.size W (w2.setRow (W.heap.size + 1) #[.bool false, .int .u32 (N : Int), .bool false, .string ds])) := (HB.out.row _).2
    generalize w2.setRow (W.heap.size + 1) #[.bool false, .int .u32 (N : Int), .bool false, .string ds] = v2 at HRe HBe ⊢
    have r0 : v2.cell? ⟨W.heap.size + 1, 0, none⟩ = some (.bool false) := HRe.out.c 0 _ rfl
    have r1 : v2.cell? ⟨W.heap.size + 1, 1, none⟩ = some (.int .u32 (N : Int)) := HRe.out.c 1 _ rfl
    have r2 : v2.cell? ⟨W.heap.size + 1, 2, none⟩ = some (.bool false) := HRe.out.c 2 _ rfl
    have r3 : v2.cell? ⟨W.heap.size + 1, 3, none⟩ = some (.string ds) := HRe.out.c 3 _ rfl
    go_wp2_with fail
    exact bodyPost_ret (v := bV (some (N, ds))) (by simp [results, Tryd.results9, go_sem, bV, r0, r1, r2, r3]) rfl ⟨by rw [HN.out], HBe.out⟩
theorem Hl.skip21 {P : Program} {ops : Array Oper} {Q : Exit → Act → World → Prop} {md : Region.Mode} {S : World → Prop} {i d : Nat} {op : Op} {ty : TypeId} {pos : String} {after : Array Edge} {guard : Option (Nat × Bool)} {fuel : Nat} {listed : Array Bool} {a : Act} {w : World} (hi : ops[i]? = some ⟨some d, op, ty, pos, after, guard⟩)
    (hs : Region.noSelect ops = true) (hf : Region.free md ops listed i = true) (hr : (Region.ready md ops listed).contains i = true) (hQ : ∀ c a w, Q (.panic c) (a.put (some d) undef) w → Q (.panic c) a w)
    (hw : Region.wanted ⟨some d, op, ty, pos, after, guard⟩ (yielded ops a.tmps) = false) (hS : S w)
    (h : wpAnyH P md ops Q S fuel (listed.setIfInBounds i true) (a.put (some d) undef) w) : wpAnyH P md ops Q S (fuel + 1) listed a w :=
  wpAnyH_take hi hs hf hr hQ (Or.inr ⟨hw, rfl⟩) hS h
/-- A matrix, a frame, a result's block, a beat. -/
structure Pd (W w : World) (m : Mx.M) (a : Ma) (q : Nat) (fc rs be : Array Value) : Prop where
  mat : RowT 27 w W.heap.size (mCs m a)
  fr : RowT 30 w (W.heap.size + 1) fc
  res : RowT 36 w (W.heap.size + 2) rs
  be : RowT 36 w q be
  bel : Below W.heap.size W w
theorem Pd.on {W w w' : World} {m : Mx.M} {a : Ma} {q : Nat} {fc rs be : Array Value} (h : Pd W w m a q fc rs be) (hb : Below w.heap.size w w') : Pd W w' m a q fc rs be := ⟨h.mat.on hb, h.fr.on hb, h.res.on hb, h.be.on hb, h.bel.trans (hb.mono h.bel.size)⟩
theorem Pd.mk' (W : World) (m : Mx.M) (a : Ma) (fc rs : Array Value) : RowT 27 (((W.alloc (.cells (mCs m a) 27)).alloc (.cells fc 30)).alloc (.cells rs 36)) W.heap.size (mCs m a) ∧ RowT 30 (((W.alloc (.cells (mCs m a) 27)).alloc (.cells fc 30)).alloc (.cells rs 36)) (W.heap.size + 1) fc ∧ RowT 36 (((W.alloc (.cells (mCs m a) 27)).alloc (.cells fc 30)).alloc (.cells rs 36)) (W.heap.size + 2) rs ∧ Below W.heap.size W (((W.alloc (.cells (mCs m a) 27)).alloc (.cells fc 30)).alloc (.cells rs 36)) := by
  have s1 : (W.alloc (.cells (mCs m a) 27)).heap.size = W.heap.size + 1 := by simp
  have s2 : ((W.alloc (.cells (mCs m a) 27)).alloc (.cells fc 30)).heap.size = W.heap.size + 2 := by simp
  have b1 := (Below.refl W.heap.size W).alloc (Nat.le_refl _) (.cells (mCs m a) 27)
  have b2 : Below (W.alloc (.cells (mCs m a) 27)).heap.size (W.alloc (.cells (mCs m a) 27)) ((W.alloc (.cells (mCs m a) 27)).alloc (.cells fc 30)) := (Below.refl _ _).alloc (Nat.le_refl _) _
  have b3 : Below ((W.alloc (.cells (mCs m a) 27)).alloc (.cells fc 30)).heap.size ((W.alloc (.cells (mCs m a) 27)).alloc (.cells fc 30)) (((W.alloc (.cells (mCs m a) 27)).alloc (.cells fc 30)).alloc (.cells rs 36)) := (Below.refl _ _).alloc (Nat.le_refl _) _
  refine ⟨((RowT.new 27 W (mCs m a)).on b2).on b3, ?_, ?_, (b1.trans (b2.mono b1.size)).trans (b3.mono (by omega))⟩
  · have := RowT.new 30 (W.alloc (.cells (mCs m a) 27)) fc
    rw [s1] at this
    exact this.on b3
  · have := RowT.new 36 ((W.alloc (.cells (mCs m a) 27)).alloc (.cells fc 30)) rs
    rwa [s2] at this
theorem Pd.row {W w : World} {m : Mx.M} {a : Ma} {q : Nat} {fc rs be : Array Value} (h : Pd W w m a q fc rs be) (cs : Array Value) : RowT 36 (w.setRow (W.heap.size + 2) cs) (W.heap.size + 2) cs ∧ Below W.heap.size W (w.setRow (W.heap.size + 2) cs) :=
  ⟨setRow_heap _ _ _ _ _ _ h.res, below_setRow h.bel (by omega) _⟩
theorem bt_none : btV none = .tuple #[.agg #[.int .i64 0, .int .i64 0, .int .u16 0, .bool false], .bool false] := rfl
set_option maxRecDepth 100000 in
set_option maxHeartbeats 4000000 in
theorem rf_parse (W : World) (hT : Tab W) (m : Mx.M) (a : Ma) (x : Bool) (n : Nat) (r : Bool) (d : ByteArray) (hm : MIn W m a) (hS : Mx.Small m) (hr : m.ref < 4294967296) (hn : n < 4294967296) : Calls Tryd.prog 11 #[mV m a, .agg #[.bool x, .int .u32 (n : Int), .bool r, .string d]] W fun e w' => e = .returned (btV (Q21.parse m x n r d)) ∧ Below W.heap.size W w' := by
  obtain ⟨b, hb⟩ : ∃ b, ofF m n d = b := ⟨_, rfl⟩
  have HRd : Hid (∀ w, Calls Tryd.prog 21 #[.agg (mCs m a), .agg #[.bool x, .int .u32 (n : Int), .bool r, .string d]] w fun e w' => e = .returned (.agg #[.int .i64 b.rank, .int .i64 b.cycle, .int .u16 (b.glob : Int), .bool b.disc]) ∧ Below w.heap.size w w') := fun w => by subst hb; exact rf_read w m a x n r d hr hn
  have HC : Hid (∀ w c, Below W.heap.size W w → Q21.fits m b.rank b.cycle = c → Calls Tryd.prog 18 #[.agg (mCs m a), .agg #[.int .i64 b.rank, .int .i64 b.cycle, .int .u16 (b.glob : Int), .bool b.disc]] w fun e w' => e = .returned (.bool c) ∧ Below w.heap.size w w') := fun w c hb e => by subst e; exact rf_can w (hT.below hb) m a b.rank b.cycle b.glob b.disc (hm.on hb) hS
  have HP : Hid (Q21.parse m x n r d = if Q21.fits m b.rank b.cycle = true ∧ (x = false ∧ (m.ref + b.rank.toNat = n ∧ (r = false ∧ (⟨(beD m.level (Q21.byte d 0) b.glob b.disc).toArray⟩ : ByteArray) = d))) then some b else none) := by
    subst hb
    exact parse_eq m x n r d hr hn
  have HGl : Hid (b.glob < 65536 ∧ b.cycle = (Q21.byte d 0 : Int)) := by
    subst hb
    have := byte_lt d 2
    have := byte_lt d 3
    exact ⟨by show _ * 256 + _ < 65536; omega, rfl⟩
  have HW := Pd.mk' W m a #[.bool x, .int .u32 (n : Int), .bool r, .string d] #[.int .i64 0, .int .i64 0, .int .u16 0, .bool false]
  obtain ⟨R, hR⟩ : ∃ R, Q21.parse m x n r d = R := ⟨_, rfl⟩
  rw [hR] at HP ⊢
  have HM : Hid (RowT 27 _ _ _) := HW.1
  have HF : Hid (RowT 30 _ _ _) := HW.2.1
  have HZ : Hid (RowT 36 _ _ _) := HW.2.2.1
  have HB : Hid (Below W.heap.size W _) := HW.2.2.2
  clear hm hS hT hR hr hn hb HW
  show Calls _ _ #[.agg (mCs m a), _] _ _
  obtain ⟨x0, x1, x2, x3, x4, x5, x6, x7, x8, x9, x10⟩ := HM.out.mat
  have y0 := HF.out.c 0 _ rfl
  have y1 := HF.out.c 1 _ rfl
  have y2 := HF.out.c 2 _ rfl
  have y3 := HF.out.c 3 _ rfl
  go_enter Tryd.func11, Tryd.ntmps11
  go_wp2_with fail
  refine (HRd.out _).mono ?_
  rintro e w1 ⟨rfl, hb1⟩
  clear x0 x1 x2 x3 x4 x5 x6 x7 x8 x9 x10 y0 y1 y2 y3
  replace HM : Hid (RowT 27 w1 W.heap.size (mCs m a)) := HM.out.on hb1
  replace HF : Hid (RowT 30 w1 (W.heap.size + 1) #[.bool x, .int .u32 (n : Int), .bool r, .string d]) := HF.out.on hb1
  replace HZ : Hid (RowT 36 w1 (W.heap.size + 2) #[.int .i64 0, .int .i64 0, .int .u16 0, .bool false]) := HZ.out.on hb1
  replace HB : Hid (Below W.heap.size W w1) := HB.out.trans (hb1.mono HB.out.size)
  clear hb1 HRd
  go_upto_region 2 with fail
  have HP0 : Hid (Pd W (w1.alloc (.cells #[.int .i64 b.rank, .int .i64 b.cycle, .int .u16 (b.glob : Int), .bool b.disc] 36)).drew m a w1.heap.size #[.bool x, .int .u32 (n : Int), .bool r, .string d] #[.int .i64 0, .int .i64 0, .int .u16 0, .bool false] #[.int .i64 b.rank, .int .i64 b.cycle, .int .u16 (b.glob : Int), .bool b.disc]) := by
    have al : Below w1.heap.size w1 (w1.alloc (.cells #[.int .i64 b.rank, .int .i64 b.cycle, .int .u16 (b.glob : Int), .bool b.disc] 36)) := (Below.refl _ _).alloc (Nat.le_refl _) _
    exact Pd.on ⟨HM.out.on al, HF.out.on al, HZ.out.on al, RowT.new _ _ _, HB.out.trans (al.mono HB.out.size)⟩ (Below.refl _ _).drew
  refine wp_region_held_drew (S := fun w' => Pd W w' m a w1.heap.size #[.bool x, .int .u32 (n : Int), .bool r, .string d] #[.int .i64 0, .int .i64 0, .int .u16 0, .bool false] #[.int .i64 b.rank, .int .i64 b.cycle, .int .u16 (b.glob : Int), .bool b.disc]) (by kernel_rfl) HP0.out (fun hHeld => ?_)
  clear HM HF HZ HB HP0
  generalize (w1.alloc (.cells #[.int .i64 b.rank, .int .i64 b.cycle, .int .u16 (b.glob : Int), .bool b.disc] 36)).drew = v0 at hHeld ⊢
  generalize w1.heap.size = q at hHeld ⊢
  obtain ⟨c, hc⟩ : ∃ c, Q21.fits m b.rank b.cycle = c := ⟨_, rfl⟩
  have HFt : Hid (Q21.fits m b.rank b.cycle = c) := hc
  clear hc
  refine Hl.takeL (i := 0) (d := 10) (v := ?_) rfl (by kernel_rfl) (by kernel_rfl) (by kernel_rfl) (fun _ _ _ h => h) (by rfl) ?_ (by first | assumption | trivial) ?_
  rotate_left
  · intro w hSw; obtain ⟨z0, z1, z2, z3, z4, z5, z6, z7, z8, z9, z10⟩ := hSw.mat.mat; go_simp; (try with_reducible rfl)
  try simp only [Act.put, List.setIfInBounds_toArray, List.set_cons_zero, List.set_cons_succ]
  refine Hl.takeL (i := 1) (d := 11) (v := ?_) rfl (by kernel_rfl) (by kernel_rfl) (by kernel_rfl) (fun _ _ _ h => h) (by rfl) ?_ (by first | assumption | trivial) ?_
  rotate_left
  · intro w hSw; have z0 : w.cell? ⟨q, 0, none⟩ = some (.int .i64 b.rank) := hSw.be.c 0 _ rfl; have z1 : w.cell? ⟨q, 1, none⟩ = some (.int .i64 b.cycle) := hSw.be.c 1 _ rfl; have z2 : w.cell? ⟨q, 2, none⟩ = some (.int .u16 (b.glob : Int)) := hSw.be.c 2 _ rfl; have z3 : w.cell? ⟨q, 3, none⟩ = some (.bool b.disc) := hSw.be.c 3 _ rfl; go_simp; (try with_reducible rfl)
  try simp only [Act.put, List.setIfInBounds_toArray, List.set_cons_zero, List.set_cons_succ]
  refine Hl.consL (i := 2) rfl (by kernel_rfl) (fun K' hK' => ?_)
  go_simp
  go_at_call 18
  refine (HC.out _ _ hHeld.bel HFt.out).mono ?_
  rintro e w2 ⟨rfl, hb2⟩
  go_simp
  have HP2 : Hid (Pd W w2 m a q _ _ _) := hHeld.on hb2
  refine hK'.out _ _ HP2.out (fun hHeld => ?_)
  clear hK' K' hb2 HC
  try simp only [Act.put, List.setIfInBounds_toArray, List.set_cons_zero, List.set_cons_succ]
  cases c
  · have HN : Hid (R = none) := by
      show R = none
      rw [HP.out, if_neg (by rw [HFt.out]; simp)]
    refine Hl.takeL (i := 3) (d := 13) (v := ?_) rfl (by kernel_rfl) (by kernel_rfl) (by kernel_rfl) (fun _ _ _ h => h) (by rfl) ?_ (by first | assumption | trivial) ?_
    rotate_left
    · intro w hSw; skip; go_simp; (try with_reducible rfl)
    try simp only [Act.put, List.setIfInBounds_toArray, List.set_cons_zero, List.set_cons_succ]
    refine Hl.takeL (i := 4) (d := 14) (v := ?_) rfl (by kernel_rfl) (by kernel_rfl) (by kernel_rfl) (fun _ _ _ h => h) (by rfl) ?_ (by first | assumption | trivial) ?_
    rotate_left
    · intro w hSw; skip; go_simp; (try with_reducible rfl)
    try simp only [Act.put, List.setIfInBounds_toArray, List.set_cons_zero, List.set_cons_succ]
    refine Hl.skip21 (i := 5) (d := 15) rfl (by kernel_rfl) (by kernel_rfl) (by kernel_rfl) (fun _ _ _ h => h) (by rfl) (by first | assumption | trivial) ?_
    try simp only [Act.put, List.setIfInBounds_toArray, List.set_cons_zero, List.set_cons_succ]
    refine Hl.skip21 (i := 6) (d := 16) rfl (by kernel_rfl) (by kernel_rfl) (by kernel_rfl) (fun _ _ _ h => h) (by rfl) (by first | assumption | trivial) ?_
    try simp only [Act.put, List.setIfInBounds_toArray, List.set_cons_zero, List.set_cons_succ]
    refine Hl.skip21 (i := 7) (d := 17) rfl (by kernel_rfl) (by kernel_rfl) (by kernel_rfl) (fun _ _ _ h => h) (by rfl) (by first | assumption | trivial) ?_
    try simp only [Act.put, List.setIfInBounds_toArray, List.set_cons_zero, List.set_cons_succ]
    refine Hl.skip21 (i := 8) (d := 18) rfl (by kernel_rfl) (by kernel_rfl) (by kernel_rfl) (fun _ _ _ h => h) (by rfl) (by first | assumption | trivial) ?_
    try simp only [Act.put, List.setIfInBounds_toArray, List.set_cons_zero, List.set_cons_succ]
    refine Hl.skip21 (i := 9) (d := 19) rfl (by kernel_rfl) (by kernel_rfl) (by kernel_rfl) (fun _ _ _ h => h) (by rfl) (by first | assumption | trivial) ?_
    try simp only [Act.put, List.setIfInBounds_toArray, List.set_cons_zero, List.set_cons_succ]
    refine Hl.takeL (i := 10) (d := 20) (v := ?_) rfl (by kernel_rfl) (by kernel_rfl) (by kernel_rfl) (fun _ _ _ h => h) (by rfl) ?_ (by first | assumption | trivial) ?_
    rotate_left
    · intro w hSw; skip; go_simp; (try with_reducible rfl)
    try simp only [Act.put, List.setIfInBounds_toArray, List.set_cons_zero, List.set_cons_succ]
    refine wpAnyH_done (by kernel_rfl) ?_ _
    have HRs : Hid (RowT 36 w2 (W.heap.size + 2) #[.int .i64 0, .int .i64 0, .int .u16 0, .bool false]) := HP2.out.res
    clear hHeld
    go_wp2_with (refine wpList_store_row (P := Tryd.prog) rfl 36 (.tmp 4) (.tmp 21) rfl (W.heap.size + 2) #[.int .i64 0, .int .i64 0, .int .u16 0, .bool false] rfl rfl 36 _ HRs.out binfo21b rfl (by simp [Value.oneCell']) ?_)
    have HRe : Hid (RowT 36 (w2.setRow (W.heap.size + 2) #[.int .i64 0, .int .i64 0, .int .u16 0, .bool false]) (W.heap.size + 2) #[.int .i64 0, .int .i64 0, .int .u16 0, .bool false]) := (HP2.out.row _).1
    have HBe : Hid (Below W.heap.size W (w2.setRow (W.heap.size + 2) #[.int .i64 0, .int .i64 0, .int .u16 0, .bool false])) := (HP2.out.row _).2
    generalize w2.setRow (W.heap.size + 2) #[.int .i64 0, .int .i64 0, .int .u16 0, .bool false] = v2 at HRe HBe ⊢
    have r0 := HRe.out.c 0 _ rfl
    have r1 := HRe.out.c 1 _ rfl
    have r2 := HRe.out.c 2 _ rfl
    have r3 := HRe.out.c 3 _ rfl
    go_wp2_with fail
    exact bodyPost_ret (v := btV none) (by simp [results, Tryd.results11, go_sem, btV, r0, r1, r2, r3]) rfl ⟨by rw [HN.out], HBe.out⟩
  · obtain ⟨_, h1, h2, _, h3, h4, h5, h6⟩ := Q21.fits_lt HFt.out
    have hf8 := fits_more HFt.out
    obtain ⟨br, bc, bg, bd⟩ := b
    obtain ⟨hbg, rfl⟩ := HGl.out
    dsimp only at *
    obtain ⟨rk, rfl⟩ := Int.eq_ofNat_of_zero_le h1
    have HFr : Hid (∀ w, Calls Tryd.prog 19 #[.agg (mCs m a), .agg #[.int .i64 (rk : Int), .int .i64 (Q21.byte d 0 : Int), .int .u16 (bg : Int), .bool bd]] w fun e w' => e = .returned (.agg #[.bool false, .int .u32 ((m.ref + rk : Nat) : Int), .bool false, .string ⟨(beD m.level (Q21.byte d 0) bg bd).toArray⟩]) ∧ Below w.heap.size w w') := fun w => rf_frame w m a rk (Q21.byte d 0) bg bd hf8.2 h6 (by omega) (by omega) hbg
    have HN : Hid (R = if x = false ∧ (m.ref + rk = n ∧ (r = false ∧ (⟨(beD m.level (Q21.byte d 0) bg bd).toArray⟩ : ByteArray) = d)) then some ⟨(rk : Int), (Q21.byte d 0 : Int), bg, bd⟩ else none) := by
      show R = _
      rw [HP.out]
      refine ite_congr ?_ (fun _ => rfl) (fun _ => rfl)
      rw [Int.toNat_natCast]
      exact propext ⟨fun h => h.2, fun h => ⟨HFt.out, h⟩⟩
    clear h1 h2 h3 h4 h5 h6 hf8 hbg HP HGl HFt
    generalize m.ref + rk = N at *
    generalize (⟨(beD m.level (Q21.byte d 0) bg bd).toArray⟩ : ByteArray) = ds at *
    generalize Q21.byte d 0 = b0 at *
    refine Hl.takeL (i := 3) (d := 13) (v := ?_) rfl (by kernel_rfl) (by kernel_rfl) (by kernel_rfl) (fun _ _ _ h => h) (by rfl) ?_ (by first | assumption | trivial) ?_
    rotate_left
    · intro w hSw; skip; go_simp; (try with_reducible rfl)
    try simp only [Act.put, List.setIfInBounds_toArray, List.set_cons_zero, List.set_cons_succ]
    refine Hl.takeL (i := 4) (d := 14) (v := ?_) rfl (by kernel_rfl) (by kernel_rfl) (by kernel_rfl) (fun _ _ _ h => h) (by rfl) ?_ (by first | assumption | trivial) ?_
    rotate_left
    · intro w hSw; skip; go_simp; (try with_reducible rfl)
    try simp only [Act.put, List.setIfInBounds_toArray, List.set_cons_zero, List.set_cons_succ]
    refine Hl.takeL (i := 5) (d := 15) (v := ?_) rfl (by kernel_rfl) (by kernel_rfl) (by kernel_rfl) (fun _ _ _ h => h) (by rfl) ?_ (by first | assumption | trivial) ?_
    rotate_left
    · intro w hSw; obtain ⟨z0, z1, z2, z3, z4, z5, z6, z7, z8, z9, z10⟩ := hSw.mat.mat; go_simp; (try with_reducible rfl)
    try simp only [Act.put, List.setIfInBounds_toArray, List.set_cons_zero, List.set_cons_succ]
    refine Hl.takeL (i := 6) (d := 16) (v := ?_) rfl (by kernel_rfl) (by kernel_rfl) (by kernel_rfl) (fun _ _ _ h => h) (by rfl) ?_ (by first | assumption | trivial) ?_
    rotate_left
    · intro w hSw; have z0 : w.cell? ⟨q, 0, none⟩ = some (.int .i64 (rk : Int)) := hSw.be.c 0 _ rfl; have z1 : w.cell? ⟨q, 1, none⟩ = some (.int .i64 (b0 : Int)) := hSw.be.c 1 _ rfl; have z2 : w.cell? ⟨q, 2, none⟩ = some (.int .u16 (bg : Int)) := hSw.be.c 2 _ rfl; have z3 : w.cell? ⟨q, 3, none⟩ = some (.bool bd) := hSw.be.c 3 _ rfl; go_simp; (try with_reducible rfl)
    try simp only [Act.put, List.setIfInBounds_toArray, List.set_cons_zero, List.set_cons_succ]
    refine Hl.takeL (i := 8) (d := 18) (v := ?_) rfl (by kernel_rfl) (by kernel_rfl) (by kernel_rfl) (fun _ _ _ h => h) (by rfl) ?_ (by first | assumption | trivial) ?_
    rotate_left
    · intro w hSw; have z0 : w.cell? ⟨W.heap.size + 1, 0, none⟩ = some (.bool x) := hSw.fr.c 0 _ rfl; have z1 : w.cell? ⟨W.heap.size + 1, 1, none⟩ = some (.int .u32 (n : Int)) := hSw.fr.c 1 _ rfl; have z2 : w.cell? ⟨W.heap.size + 1, 2, none⟩ = some (.bool r) := hSw.fr.c 2 _ rfl; have z3 : w.cell? ⟨W.heap.size + 1, 3, none⟩ = some (.string d) := hSw.fr.c 3 _ rfl; go_simp; (try with_reducible rfl)
    try simp only [Act.put, List.setIfInBounds_toArray, List.set_cons_zero, List.set_cons_succ]
    refine Hl.consL (i := 7) rfl (by kernel_rfl) (fun K' hK' => ?_)
    go_simp
    go_at_call 19
    refine (HFr.out _).mono ?_
    rintro e w3 ⟨rfl, hb3⟩
    go_simp
    have HP3 : Hid (Pd W w3 m a q _ _ _) := hHeld.on hb3
    refine hK'.out _ _ HP3.out (fun hHeld => ?_)
    clear hK' K' hb3 HFr HP2
    try simp only [Act.put, List.setIfInBounds_toArray, List.set_cons_zero, List.set_cons_succ]
    obtain ⟨B, hB⟩ : ∃ B, (!(x == false && ((N : Int) == (n : Int) && (r == false && decide (ds = d))))) = B := ⟨_, rfl⟩
    have hne : ∀ w, (binOp .neq 30 (.agg #[.bool false, .int .u32 (N : Int), .bool false, .string ds]) (.agg #[.bool x, .int .u32 (n : Int), .bool r, .string d])).run Tryd.prog w = .ok (.bool B) w := fun w => hB ▸ rf_neq w (N : Int) (n : Int) x r ds d
    replace HN : Hid (R = if B then none else some ⟨(rk : Int), (b0 : Int), bg, bd⟩) := by
      show R = _
      rw [HN.out]
      by_cases hc : x = false ∧ (N = n ∧ (r = false ∧ ds = d))
      · rw [if_pos hc]
        obtain ⟨rfl, rfl, rfl, rfl⟩ := hc
        have : B = false := by rw [← hB]; simp
        rw [this]; rfl
      · rw [if_neg hc]
        have : B = true := by
          rw [← hB]
          simp only [Bool.not_eq_true', Bool.and_eq_false_iff, beq_eq_false_iff_ne, decide_eq_false_iff_not, ne_eq, Int.natCast_inj]
          by_cases h1 : x = false
          · by_cases h2 : N = n
            · by_cases h3 : r = false
              · exact Or.inr (Or.inr (Or.inr (fun h4 => hc ⟨h1, h2, h3, h4⟩)))
              · exact Or.inr (Or.inr (Or.inl h3))
            · exact Or.inr (Or.inl h2)
          · exact Or.inl h1
        rw [this]; rfl
    clear hB
    refine Hl.takeL (i := 9) (d := 19) (v := ?_) rfl (by kernel_rfl) (by kernel_rfl) (by kernel_rfl) (fun _ _ _ h => h) (by rfl) ?_ (by first | assumption | trivial) ?_
    rotate_left
    · intro w hSw; skip; go_simp; (try with_reducible rfl)
    try simp only [Act.put, List.setIfInBounds_toArray, List.set_cons_zero, List.set_cons_succ]
    refine Hl.takeL (i := 10) (d := 20) (v := ?_) rfl (by kernel_rfl) (by kernel_rfl) (by kernel_rfl) (fun _ _ _ h => h) (by rfl) ?_ (by first | assumption | trivial) ?_
    rotate_left
    · intro w hSw; skip; go_simp; (try with_reducible rfl)
    try simp only [Act.put, List.setIfInBounds_toArray, List.set_cons_zero, List.set_cons_succ]
    refine wpAnyH_done (by kernel_rfl) ?_ _
    clear hHeld hne
    have HRs : Hid (RowT 36 w3 (W.heap.size + 2) #[.int .i64 0, .int .i64 0, .int .u16 0, .bool false]) := HP3.out.res
    cases B
    · replace HN : Hid (R = some ⟨(rk : Int), (b0 : Int), bg, bd⟩) := HN.out
      have y0 : w3.cell? ⟨q, 0, none⟩ = some (.int .i64 (rk : Int)) := HP3.out.be.c 0 _ rfl
      have y1 : w3.cell? ⟨q, 1, none⟩ = some (.int .i64 (b0 : Int)) := HP3.out.be.c 1 _ rfl
      have y2 : w3.cell? ⟨q, 2, none⟩ = some (.int .u16 (bg : Int)) := HP3.out.be.c 2 _ rfl
      have y3 : w3.cell? ⟨q, 3, none⟩ = some (.bool bd) := HP3.out.be.c 3 _ rfl
      go_wp2_with (refine wpList_store_row (P := Tryd.prog) rfl 36 (.tmp 4) (.tmp 22) rfl (W.heap.size + 2) #[.int .i64 (rk : Int), .int .i64 (b0 : Int), .int .u16 (bg : Int), .bool bd] rfl rfl 36 _ HRs.out binfo21b rfl (by simp [Value.oneCell']) ?_)
      have HRe : Hid (RowT 36 (w3.setRow (W.heap.size + 2) #[.int .i64 (rk : Int), .int .i64 (b0 : Int), .int .u16 (bg : Int), .bool bd]) (W.heap.size + 2) #[.int .i64 (rk : Int), .int .i64 (b0 : Int), .int .u16 (bg : Int), .bool bd]) := (HP3.out.row _).1
      have HBe : Hid (Below W.heap.size W (w3.setRow (W.heap.size + 2) #[.int .i64 (rk : Int), .int .i64 (b0 : Int), .int .u16 (bg : Int), .bool bd])) := (HP3.out.row _).2
      generalize w3.setRow (W.heap.size + 2) #[.int .i64 (rk : Int), .int .i64 (b0 : Int), .int .u16 (bg : Int), .bool bd] = v2 at HRe HBe ⊢
      have r0 := HRe.out.c 0 _ rfl
      have r1 := HRe.out.c 1 _ rfl
      have r2 := HRe.out.c 2 _ rfl
      have r3 := HRe.out.c 3 _ rfl
      go_wp2_with fail
      exact bodyPost_ret (v := btV (some ⟨(rk : Int), (b0 : Int), bg, bd⟩)) (by simp [results, Tryd.results11, go_sem, btV, r0, r1, r2, r3]) rfl ⟨by rw [HN.out], HBe.out⟩
    · replace HN : Hid (R = none) := HN.out
      go_wp2_with (refine wpList_store_row (P := Tryd.prog) rfl 36 (.tmp 4) (.tmp 21) rfl (W.heap.size + 2) #[.int .i64 0, .int .i64 0, .int .u16 0, .bool false] rfl rfl 36 _ HRs.out binfo21b rfl (by simp [Value.oneCell']) ?_)
      have HRe : Hid (RowT 36 (w3.setRow (W.heap.size + 2) #[.int .i64 0, .int .i64 0, .int .u16 0, .bool false]) (W.heap.size + 2) #[.int .i64 0, .int .i64 0, .int .u16 0, .bool false]) := (HP3.out.row _).1
      have HBe : Hid (Below W.heap.size W (w3.setRow (W.heap.size + 2) #[.int .i64 0, .int .i64 0, .int .u16 0, .bool false])) := (HP3.out.row _).2
      generalize w3.setRow (W.heap.size + 2) #[.int .i64 0, .int .i64 0, .int .u16 0, .bool false] = v2 at HRe HBe ⊢
      have r0 := HRe.out.c 0 _ rfl
      have r1 := HRe.out.c 1 _ rfl
      have r2 := HRe.out.c 2 _ rfl
      have r3 := HRe.out.c 3 _ rfl
      go_wp2_with fail
      exact bodyPost_ret (v := btV none) (by simp [results, Tryd.results11, go_sem, btV, r0, r1, r2, r3]) rfl ⟨by rw [HN.out], HBe.out⟩
theorem refSpec : RefSpec Tab where
  build := fun w m a rank cycle g d hQ hm hS _ _ _ hg => rf_build w hQ m a rank cycle g d hm hS hg
  parse := fun w m a x n r d hQ hm hS hwf hn _ => rf_parse w hQ m a x n r d hm hS (by have := hwf.ref; omega) hn
theorem matLk : MatLk Tab where
  find := fun w m a ext rtr id d _ hm hS _ _ => mk_find w m a ext rtr id d hm hS
  frame := fun w m a msg d _ hm hS _ _ _ => mk_frame w m a msg d hm hS
end Go.Proofs.YtoinkaakiohclaaDoor
