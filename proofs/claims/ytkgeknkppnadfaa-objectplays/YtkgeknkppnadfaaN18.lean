/- Layer 18: the document's objects: New. -/
import Derived.Test.YtkgeknkppnadfaaR18
namespace Go.Proofs.Ytkgeknkppnadfaa
open Go.RowKit Go.WideShapes Go.ChangeShapes Go.ChangeAt
set_option linter.unusedVariables false
/-- What has been made so far: b0 .. b4: which parts are there. -/
structure Mk18 (v w : World) (n : Nat) (b0 b1 b2 b3 b4 : Bool) (u12 u14 u16 u18 u19 : Value) : Prop where
  p0 : b0 = true → ∃ g, u12 = .slice (some ⟨g, 0, none⟩) n n ∧ v.heap.size ≤ g ∧ RowT 9 w g (oS (List.replicate n none))
  p1 : b1 = true → ∃ g, u14 = .slice (some ⟨g, 0, none⟩) n n ∧ v.heap.size ≤ g ∧ RowT 4 w g (oB (List.replicate n none))
  p2 : b2 = true → ∃ g, u16 = .slice (some ⟨g, 0, none⟩) n n ∧ v.heap.size ≤ g ∧ RowT 9 w g (oS (List.replicate n none))
  p3 : b3 = true → ∃ g, u18 = .slice (some ⟨g, 0, none⟩) n n ∧ v.heap.size ≤ g ∧ RowT 4 w g (oB (List.replicate n none))
  p4 : b4 = true → ∃ r H, u19 = Ob.ptr r ∧ RqAt w r H ⟨4, []⟩ ∧ ∀ g, H g → v.heap.size ≤ g
  d02 : b0 = true → b2 = true → u12 ≠ u16
  d13 : b1 = true → b3 = true → u14 ≠ u18
theorem Mk18.on {v w w' : World} {n : Nat} {b0 b1 b2 b3 b4 : Bool} {u12 u14 u16 u18 u19 : Value} (h : Mk18 v w n b0 b1 b2 b3 b4 u12 u14 u16 u18 u19) (hb : Below w.heap.size w w') : Mk18 v w' n b0 b1 b2 b3 b4 u12 u14 u16 u18 u19 where
  p0 := fun e => by obtain ⟨g, h1, h2, h3⟩ := h.p0 e; exact ⟨g, h1, h2, h3.on hb⟩
  p1 := fun e => by obtain ⟨g, h1, h2, h3⟩ := h.p1 e; exact ⟨g, h1, h2, h3.on hb⟩
  p2 := fun e => by obtain ⟨g, h1, h2, h3⟩ := h.p2 e; exact ⟨g, h1, h2, h3.on hb⟩
  p3 := fun e => by obtain ⟨g, h1, h2, h3⟩ := h.p3 e; exact ⟨g, h1, h2, h3.on hb⟩
  p4 := fun e => by obtain ⟨r, H, h1, h2, h3⟩ := h.p4 e; exact ⟨r, H, h1, rq_is.on h2 (fun g hg => hb.block g (rq_is.lt h2 g hg)), h3⟩
  d02 := h.d02
  d13 := h.d13
theorem Mk18.start (v w : World) (n : Nat) (u12 u14 u16 u18 u19 : Value) : Mk18 v w n false false false false false u12 u14 u16 u18 u19 := ⟨nofun, nofun, nofun, nofun, nofun, nofun, nofun⟩
theorem sl_ne {g g' n : Nat} (h : g ≠ g') : (Value.slice (some ⟨g, 0, none⟩) n n) ≠ .slice (some ⟨g', 0, none⟩) n n := fun e => by
  injection e with e1
  injection e1 with e2
  injection e2 with e3
  exact h e3
def Inv18 (v : World) (n : Nat) (f : Value → Value → Value → Value → Value → Act) (fl : List Bool) (x : Act) (w : World) : Prop :=
  ∃ u12 u14 u16 u18 u19, x = f u12 u14 u16 u18 u19 ∧ match fl with
    | [b0, b1, b2, b3, b4] => Mk18 v w n b0 b1 b2 b3 b4 u12 u14 u16 u18 u19
    | _ => False
theorem Mk18.m0 {v w : World} {n : Nat} {b1 b2 b3 b4 : Bool} {u12 u14 u16 u18 u19 : Value} (h : Mk18 v w n false b1 b2 b3 b4 u12 u14 u16 u18 u19) (hv : v.heap.size ≤ w.heap.size) : Mk18 v (w.alloc (.cells (oS (List.replicate n none)) 9)) n true b1 b2 b3 b4 (.slice (some ⟨w.heap.size, 0, none⟩) n n) u14 u16 u18 u19 := by
  have k := h.on ((Below.refl _ _).alloc (Nat.le_refl _) (.cells (oS (List.replicate n none)) 9))
  refine ⟨fun _ => ⟨_, rfl, hv, RowT.new _ _ _⟩, k.p1, k.p2, k.p3, k.p4, fun _ e => ?_, k.d13⟩
  obtain ⟨g, h1, _, h3⟩ := h.p2 e
  rw [h1]
  exact sl_ne (by have := h3.lt; omega)
theorem Mk18.m1 {v w : World} {n : Nat} {b0 b2 b3 b4 : Bool} {u12 u14 u16 u18 u19 : Value} (h : Mk18 v w n b0 false b2 b3 b4 u12 u14 u16 u18 u19) (hv : v.heap.size ≤ w.heap.size) : Mk18 v (w.alloc (.cells (oB (List.replicate n none)) 4)) n b0 true b2 b3 b4 u12 (.slice (some ⟨w.heap.size, 0, none⟩) n n) u16 u18 u19 := by
  have k := h.on ((Below.refl _ _).alloc (Nat.le_refl _) (.cells (oB (List.replicate n none)) 4))
  refine ⟨k.p0, fun _ => ⟨_, rfl, hv, RowT.new _ _ _⟩, k.p2, k.p3, k.p4, k.d02, fun _ e => ?_⟩
  obtain ⟨g, h1, _, h3⟩ := h.p3 e
  rw [h1]
  exact sl_ne (by have := h3.lt; omega)
theorem Mk18.m2 {v w : World} {n : Nat} {b0 b1 b3 b4 : Bool} {u12 u14 u16 u18 u19 : Value} (h : Mk18 v w n b0 b1 false b3 b4 u12 u14 u16 u18 u19) (hv : v.heap.size ≤ w.heap.size) : Mk18 v (w.alloc (.cells (oS (List.replicate n none)) 9)) n b0 b1 true b3 b4 u12 u14 (.slice (some ⟨w.heap.size, 0, none⟩) n n) u18 u19 := by
  have k := h.on ((Below.refl _ _).alloc (Nat.le_refl _) (.cells (oS (List.replicate n none)) 9))
  refine ⟨k.p0, k.p1, fun _ => ⟨_, rfl, hv, RowT.new _ _ _⟩, k.p3, k.p4, fun e _ => ?_, k.d13⟩
  obtain ⟨g, h1, _, h3⟩ := h.p0 e
  rw [h1]
  exact sl_ne (by have := h3.lt; omega)
theorem Mk18.m3 {v w : World} {n : Nat} {b0 b1 b2 b4 : Bool} {u12 u14 u16 u18 u19 : Value} (h : Mk18 v w n b0 b1 b2 false b4 u12 u14 u16 u18 u19) (hv : v.heap.size ≤ w.heap.size) : Mk18 v (w.alloc (.cells (oB (List.replicate n none)) 4)) n b0 b1 b2 true b4 u12 u14 u16 (.slice (some ⟨w.heap.size, 0, none⟩) n n) u19 := by
  have k := h.on ((Below.refl _ _).alloc (Nat.le_refl _) (.cells (oB (List.replicate n none)) 4))
  refine ⟨k.p0, k.p1, k.p2, fun _ => ⟨_, rfl, hv, RowT.new _ _ _⟩, k.p4, k.d02, fun e _ => ?_⟩
  obtain ⟨g, h1, _, h3⟩ := h.p1 e
  rw [h1]
  exact sl_ne (by have := h3.lt; omega)
theorem Mk18.m4 {v w w' : World} {n : Nat} {b0 b1 b2 b3 : Bool} {u12 u14 u16 u18 u19 : Value} (h : Mk18 v w n b0 b1 b2 b3 false u12 u14 u16 u18 u19) (hv : v.heap.size ≤ w.heap.size) {r : Nat} {H : Nat → Prop} (hq : RqAt w' r H ⟨4, []⟩) (hH : ∀ g, H g → w.heap.size ≤ g) (hb : Below w.heap.size w w') : Mk18 v w' n b0 b1 b2 b3 true u12 u14 u16 u18 (Ob.ptr r) := by
  have k := h.on hb
  exact ⟨k.p0, k.p1, k.p2, k.p3, fun _ => ⟨r, H, rfl, hq, fun g hg => Nat.le_trans hv (hH g hg)⟩, k.d02, k.d13⟩
set_option maxRecDepth 100000 in
set_option maxHeartbeats 8000000 in
theorem ro_new (V w : World) (m : Mx.M) (a : Ma) (who : Int) (hV : Below V.heap.size V w) (hm : MIn V m a) (hS : Mx.Small m) : Ob.Makes Try.prog (RoAt V) 9 #[mV m a, .int .i64 who] w (Q18.mk m.messages who) := by
  have HX : Hid (Bx w (w.alloc (.cells (mCs m a) 29)) w.heap.size m a) := Bx.mk' (hm.on hV)
  have HM : Hid (MIn V m a) := hm
  have hn0 : m.messages.length ≤ 1000 := hS.b
  obtain ⟨n, hn⟩ : ∃ n, m.messages.length = n := ⟨_, rfl⟩
  have HN : Hid (m.messages.length = n) := hn
  have HA : Hid (∀ w', Below (w.alloc (.cells (mCs m a) 29)).heap.size (w.alloc (.cells (mCs m a) 29)) w' → RowT 29 w' w.heap.size (mCs m a)) := fun w' hb => (HX.out.on hb).row
  have y9 : (w.alloc (.cells (mCs m a) 29)).cell? ⟨w.heap.size, 9, none⟩ = some (.slice a.s2 n a.c2) := by have := HX.out.row.mat.2.2.2.2.2.2.2.2.2.1; rwa [hn] at this
  have hn1 : n ≤ 1000 := by omega
  have hb1 : (n : Int) ≤ 1000 := by omega
  have HQ : Hid (∀ w, Ob.Makes Try.prog RqAt 26 #[.int .i64 4] w ⟨4, []⟩) := fun w => rq_makes w 4
  unfold Ob.Makes
  clear hV hm hS hn hn0
  go_enter Try.func9, Try.ntmps9
  go_upto_region 2 with fail
  have HB0 : Hid (Below w.heap.size w (w.alloc (.cells (mCs m a) 29))) := HX.out.below
  clear HX y9
  generalize w.alloc (.cells (mCs m a) 29) = v at HA HB0 ⊢
  generalize w.heap.size = bx at HA ⊢
  refine wp_region_held_drew (S := fun w' => Below v.heap.size v w') (by kernel_rfl) (Below.refl _ _).drew (fun hHeld => ?_)
  refine Hl.takeL (i := 0) (d := 9) (v := ?_) rfl (by kernel_rfl) (by kernel_rfl) (by kernel_rfl) (fun _ _ _ h => h) (by rfl) ?_ (by first | assumption | trivial) ?_
  rotate_left
  · intro w hSw; obtain ⟨z0, z1, z2, z3, z4, z5, z6, z7, z8, z9, z10⟩ := (HA.out _ hSw).mat; go_simp; (try with_reducible rfl)
  simp only [Act.put, List.setIfInBounds_toArray, List.set_cons_zero, List.set_cons_succ]
  refine Hl.takeL (i := 1) (d := 10) (v := ?_) rfl (by kernel_rfl) (by kernel_rfl) (by kernel_rfl) (fun _ _ _ h => h) (by rfl) ?_ (by first | assumption | trivial) ?_
  rotate_left
  · intro w hSw; skip; go_simp; (try with_reducible rfl)
  simp only [Act.put, List.setIfInBounds_toArray, List.set_cons_zero, List.set_cons_succ]
  refine Hl.takeL (i := 2) (d := 11) (v := ?_) rfl (by kernel_rfl) (by kernel_rfl) (by kernel_rfl) (fun _ _ _ h => h) (by rfl) ?_ (by first | assumption | trivial) ?_
  rotate_left
  · intro w hSw; skip; go_simp; (try with_reducible rfl)
  simp only [Act.put, List.setIfInBounds_toArray, List.set_cons_zero, List.set_cons_succ]
  refine Hl.takeL (i := 4) (d := 13) (v := ?_) rfl (by kernel_rfl) (by kernel_rfl) (by kernel_rfl) (fun _ _ _ h => h) (by rfl) ?_ (by first | assumption | trivial) ?_
  rotate_left
  · intro w hSw; skip; go_simp; (try with_reducible rfl)
  simp only [Act.put, List.setIfInBounds_toArray, List.set_cons_zero, List.set_cons_succ]
  refine Hl.takeL (i := 6) (d := 15) (v := ?_) rfl (by kernel_rfl) (by kernel_rfl) (by kernel_rfl) (fun _ _ _ h => h) (by rfl) ?_ (by first | assumption | trivial) ?_
  rotate_left
  · intro w hSw; skip; go_simp; (try with_reducible rfl)
  simp only [Act.put, List.setIfInBounds_toArray, List.set_cons_zero, List.set_cons_succ]
  refine Hl.takeL (i := 8) (d := 17) (v := ?_) rfl (by kernel_rfl) (by kernel_rfl) (by kernel_rfl) (fun _ _ _ h => h) (by rfl) ?_ (by first | assumption | trivial) ?_
  rotate_left
  · intro w hSw; skip; go_simp; (try with_reducible rfl)
  simp only [Act.put, List.setIfInBounds_toArray, List.set_cons_zero, List.set_cons_succ]
  refine Hp.begin_ [3, 5, 7, 9, 10] 3 8 (Inv18 v n (fun u12 u14 u16 u18 u19 => ⟨#[mV m a, .int .i64 who, Ob.ptr bx, undef, .pointer none, .int .i64 (n : Int), .pointer (some ⟨bx, 9, none⟩), .slice a.s2 n a.c2, .int .i64 (n : Int), .agg #[.int .i64 m.level, .int .i64 m.nodes, .int .i64 m.cycles, .int .i64 m.length, .int .i64 m.enable, .int .i64 m.unit, .int .i64 m.init, .int .u32 (m.ref : Int), .slice a.s1 m.masters.length a.c1, .slice a.s2 m.messages.length a.c2, .slice a.s3 m.windows.length a.c3], .int .i64 who, .int .i64 (n : Int), u12, .int .i64 (n : Int), u14, .int .i64 (n : Int), u16, .int .i64 (n : Int), u18, u19, undef, undef], []⟩)) rfl (by kernel_rfl) hHeld ⟨undef, undef, undef, undef, undef, rfl, Mk18.start v _ n _ _ _ _ _⟩ ?_ ?_
  · intro k i fl x w1 hl hk hf hS1 hI
    obtain ⟨u12, u14, u16, u18, u19, rfl, hM⟩ := hI
    obtain ⟨b0, b1, b2, b3, b4, rfl⟩ : ∃ b0 b1 b2 b3 b4, fl = [b0, b1, b2, b3, b4] := by
      match fl, hl with
      | [b0, b1, b2, b3, b4], _ => exact ⟨b0, b1, b2, b3, b4, rfl⟩
    have hv1 := hS1.size
    rcases k with _ | _ | _ | _ | _ | k
    · obtain rfl : 3 = i := by simpa using hk
      obtain rfl : b0 = false := by simpa using hf
      have hmk := make_str (n : Int) n rfl hn1 w1
      have hal : Below w1.heap.size w1 (w1.alloc (.cells (oS (List.replicate n none)) 9)) := (Below.refl _ _).alloc (Nat.le_refl _) _
      refine Hp.step_ rfl (fun K' hK => ?_)
      go_simp
      refine hK.out _ _ ⟨hS1.trans (hal.mono hv1), ?_⟩
      exact ⟨_, _, _, _, _, rfl, Mk18.m0 hM hv1⟩
    · obtain rfl : 5 = i := by simpa using hk
      obtain rfl : b1 = false := by simpa using hf
      have hmk := make_bool (n : Int) n rfl hn1 w1
      have hal : Below w1.heap.size w1 (w1.alloc (.cells (oB (List.replicate n none)) 4)) := (Below.refl _ _).alloc (Nat.le_refl _) _
      refine Hp.step_ rfl (fun K' hK => ?_)
      go_simp
      refine hK.out _ _ ⟨hS1.trans (hal.mono hv1), ?_⟩
      exact ⟨_, _, _, _, _, rfl, Mk18.m1 hM hv1⟩
    · obtain rfl : 7 = i := by simpa using hk
      obtain rfl : b2 = false := by simpa using hf
      have hmk := make_str (n : Int) n rfl hn1 w1
      have hal : Below w1.heap.size w1 (w1.alloc (.cells (oS (List.replicate n none)) 9)) := (Below.refl _ _).alloc (Nat.le_refl _) _
      refine Hp.step_ rfl (fun K' hK => ?_)
      go_simp
      refine hK.out _ _ ⟨hS1.trans (hal.mono hv1), ?_⟩
      exact ⟨_, _, _, _, _, rfl, Mk18.m2 hM hv1⟩
    · obtain rfl : 9 = i := by simpa using hk
      obtain rfl : b3 = false := by simpa using hf
      have hmk := make_bool (n : Int) n rfl hn1 w1
      have hal : Below w1.heap.size w1 (w1.alloc (.cells (oB (List.replicate n none)) 4)) := (Below.refl _ _).alloc (Nat.le_refl _) _
      refine Hp.step_ rfl (fun K' hK => ?_)
      go_simp
      refine hK.out _ _ ⟨hS1.trans (hal.mono hv1), ?_⟩
      exact ⟨_, _, _, _, _, rfl, Mk18.m3 hM hv1⟩
    · obtain rfl : 10 = i := by simpa using hk
      obtain rfl : b4 = false := by simpa using hf
      refine Hp.step_ rfl (fun K' hK => ?_)
      go_simp
      go_at_call 26
      refine (HQ.out w1).mono ?_
      rintro e w2 ⟨r, H, rfl, hq, hH, hb⟩
      go_simp
      exact hK.out _ _ ⟨hS1.trans (hb.mono hv1), ⟨_, _, _, _, _, rfl, Mk18.m4 hM hv1 hq hH hb⟩⟩
    · simp at hk
  · intro x w1 hS1 hI
    obtain ⟨u12, u14, u16, u18, u19, rfl, hM⟩ := hI
    have hM : Mk18 v w1 n true true true true true u12 u14 u16 u18 u19 := hM
    obtain ⟨g1, rfl, hg1, r1⟩ := hM.p0 rfl
    obtain ⟨g2, rfl, hg2, r2⟩ := hM.p1 rfl
    obtain ⟨g3, rfl, hg3, r3⟩ := hM.p2 rfl
    obtain ⟨g4, rfl, hg4, r4⟩ := hM.p3 rfl
    obtain ⟨r, H, rfl, hq, hH⟩ := hM.p4 rfl
    have h13 : g1 ≠ g3 := fun e => hM.d02 rfl rfl (by rw [e])
    have h24 : g2 ≠ g4 := fun e => hM.d13 rfl rfl (by rw [e])
    clear hM
    have HR : Hid (RowT 9 w1 g1 (oS (List.replicate n none)) ∧ RowT 4 w1 g2 (oB (List.replicate n none)) ∧ RowT 9 w1 g3 (oS (List.replicate n none)) ∧ RowT 4 w1 g4 (oB (List.replicate n none)) ∧ RqAt w1 r H ⟨4, []⟩ ∧ g1 ≠ g3 ∧ g2 ≠ g4 ∧ (∀ g, H g → v.heap.size ≤ g) ∧ v.heap.size ≤ g1 ∧ v.heap.size ≤ g2 ∧ v.heap.size ≤ g3 ∧ v.heap.size ≤ g4) := ⟨r1, r2, r3, r4, hq, h13, h24, hH, hg1, hg2, hg3, hg4⟩
    clear r1 r2 r3 r4 hq h13 h24 hH hg1 hg2 hg3 hg4
    dsimp only
    refine Hl.consL (i := 11) rfl (by kernel_rfl) (fun K' hK' => ?_)
    go_simp
    refine hK'.out _ _ hS1 (fun hHeld => ?_)
    clear hK' K' hHeld
    refine Hl.consL (i := 12) rfl (by kernel_rfl) (fun K' hK' => ?_)
    go_simp
    have hal : Below w1.heap.size w1 (w1.alloc (.cells #[.int .i64 m.level, .int .i64 m.nodes, .int .i64 m.cycles, .int .i64 m.length, .int .i64 m.enable, .int .i64 m.unit, .int .i64 m.init, .int .u32 (m.ref : Int), .slice a.s1 m.masters.length a.c1, .slice a.s2 m.messages.length a.c2, .slice a.s3 m.windows.length a.c3, .int .i64 who, .slice (some ⟨g1, 0, none⟩) n n, .slice (some ⟨g2, 0, none⟩) n n, .slice (some ⟨g3, 0, none⟩) n n, .slice (some ⟨g4, 0, none⟩) n n, Ob.ptr r] 54)) := (Below.refl _ _).alloc (Nat.le_refl _) _
    refine hK'.out _ _ (hS1.trans (hal.mono hS1.size)) (fun hHeld => ?_)
    clear hK' K' hHeld
    refine Hl.consL (i := 13) rfl (by kernel_rfl) (fun K' hK' => ?_)
    go_simp
    refine hK'.out _ _ (hS1.trans (hal.mono hS1.size)) (fun hHeld => ?_)
    clear hK' K' hHeld
    refine wpAnyH_done (by kernel_rfl) ?_ _
    have HB1 : Hid (Below v.heap.size v w1) := hS1
    have HAl : Hid (Below w1.heap.size w1 (w1.alloc (.cells #[.int .i64 m.level, .int .i64 m.nodes, .int .i64 m.cycles, .int .i64 m.length, .int .i64 m.enable, .int .i64 m.unit, .int .i64 m.init, .int .u32 (m.ref : Int), .slice a.s1 m.masters.length a.c1, .slice a.s2 m.messages.length a.c2, .slice a.s3 m.windows.length a.c3, .int .i64 who, .slice (some ⟨g1, 0, none⟩) n n, .slice (some ⟨g2, 0, none⟩) n n, .slice (some ⟨g3, 0, none⟩) n n, .slice (some ⟨g4, 0, none⟩) n n, Ob.ptr r] 54))) := hal
    have HRn : Hid (RowT 54 (w1.alloc (.cells #[.int .i64 m.level, .int .i64 m.nodes, .int .i64 m.cycles, .int .i64 m.length, .int .i64 m.enable, .int .i64 m.unit, .int .i64 m.init, .int .u32 (m.ref : Int), .slice a.s1 m.masters.length a.c1, .slice a.s2 m.messages.length a.c2, .slice a.s3 m.windows.length a.c3, .int .i64 who, .slice (some ⟨g1, 0, none⟩) n n, .slice (some ⟨g2, 0, none⟩) n n, .slice (some ⟨g3, 0, none⟩) n n, .slice (some ⟨g4, 0, none⟩) n n, Ob.ptr r] 54)) w1.heap.size #[.int .i64 m.level, .int .i64 m.nodes, .int .i64 m.cycles, .int .i64 m.length, .int .i64 m.enable, .int .i64 m.unit, .int .i64 m.init, .int .u32 (m.ref : Int), .slice a.s1 m.masters.length a.c1, .slice a.s2 m.messages.length a.c2, .slice a.s3 m.windows.length a.c3, .int .i64 who, .slice (some ⟨g1, 0, none⟩) n n, .slice (some ⟨g2, 0, none⟩) n n, .slice (some ⟨g3, 0, none⟩) n n, .slice (some ⟨g4, 0, none⟩) n n, Ob.ptr r]) := RowT.new _ _ _
    clear hal
    go_wp2
    go_ret
    obtain ⟨r1, r2, r3, r4, hq, h13, h24, hH, hg1, hg2, hg3, hg4⟩ := HR.out
    have hw := HB0.out.size
    have hv1 := HB1.out.size
    have e1 : m.messages.length = n := HN.out
    refine ⟨w1.heap.size, fun g => g = w1.heap.size ∨ g = g1 ∨ g = g2 ∨ g = g3 ∨ g = g4 ∨ H g, rfl, ⟨m, a, n, g1, g2, g3, g4, r, H, fun g => Iff.rfl, ⟨HRn.out, ?_, ?_, ?_, ?_, h13, h24⟩, rq_is.on hq (fun g hg => HAl.out.block g (rq_is.lt hq g hg)), fun g hg => ⟨by have := rq_is.lt hq g hg; omega, rq_apart hq r1 (by decide) (by decide) g hg, rq_apart hq r2 (by decide) (by decide) g hg, rq_apart hq r3 (by decide) (by decide) g hg, rq_apart hq r4 (by decide) (by decide) g hg⟩, Q18.ok_mk (by omega) who, e1.symm, rfl, HM.out⟩, fun g hg => ?_, HB0.out.trans ((HB1.out.trans (HAl.out.mono hv1)).mono hw)⟩
    · have h := r1.on HAl.out; have e : oS (List.replicate n none) = oS (List.replicate m.messages.length none) := (by rw [e1]); rw [e] at h; exact h
    · have h := r2.on HAl.out; have e : oB (List.replicate n none) = oB (List.replicate m.messages.length none) := (by rw [e1]); rw [e] at h; exact h
    · have h := r3.on HAl.out; have e : oS (List.replicate n none) = oS (List.replicate m.messages.length none) := (by rw [e1]); rw [e] at h; exact h
    · have h := r4.on HAl.out; have e : oB (List.replicate n none) = oB (List.replicate m.messages.length none) := (by rw [e1]); rw [e] at h; exact h
    · rcases hg with rfl | rfl | rfl | rfl | rfl | hg
      · omega
      · omega
      · omega
      · omega
      · omega
      · have := hH g hg; omega
end Go.Proofs.Ytkgeknkppnadfaa
