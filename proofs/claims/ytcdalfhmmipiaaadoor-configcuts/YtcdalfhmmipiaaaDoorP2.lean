/- Layer 13: the document's Print. -/
import Derived.Test.YtcdalfhmmipiaaaDoorP1
import Derived.Test.YtcdalfhmmipiaaaDoorB2
import Derived.Test.YtcdalfhmmipiaaaDoorHl
namespace Go.Proofs.YtcdalfhmmipiaaaDoor
open Go.RowKit Go.WideShapes
set_option linter.unusedVariables false
set_option maxRecDepth 100000 in
set_option maxHeartbeats 4000000 in
theorem rprint_any (W : World) (m : Mx.M) (a : Ma) (hm : MIn W m a) (hS : Mx.Small m) : Calls Tryd.prog 13 #[mV m a] W fun e w' => e = .returned (.string ⟨(Pq.pr m).toArray⟩) ∧ Below W.heap.size W w' := by
  have HR : Hid (RowT 27 (W.alloc (.cells (mCs m a) 27)) W.heap.size (mCs m a)) := RowT.new _ _ _
  have HO : Hid (MIn W m a) := hm
  have HA : Hid (Below W.heap.size W (W.alloc (.cells (mCs m a) 27))) := (Below.refl _ _).alloc (Nat.le_refl _) _
  have HI : Hid (∀ w, Below W.heap.size W w → Calls Tryd.prog 17 #[mV m a] w fun e w' => e = .returned (.bool (Mx.is m)) ∧ Below w.heap.size w w') := fun w hb => ris_any w m a (HO.out.on hb) hS
  have HY : Hid (∀ w, RowT 27 w W.heap.size (mCs m a) → (w.cell? ⟨W.heap.size, 0, none⟩ = some (.int .i64 m.level) ∧ w.cell? ⟨W.heap.size, 1, none⟩ = some (.int .i64 m.nodes) ∧ w.cell? ⟨W.heap.size, 2, none⟩ = some (.int .i64 m.cycles) ∧ w.cell? ⟨W.heap.size, 3, none⟩ = some (.int .i64 m.length) ∧ w.cell? ⟨W.heap.size, 4, none⟩ = some (.int .i64 m.enable) ∧ w.cell? ⟨W.heap.size, 5, none⟩ = some (.int .i64 m.unit) ∧ w.cell? ⟨W.heap.size, 6, none⟩ = some (.int .i64 m.init) ∧ w.cell? ⟨W.heap.size, 7, none⟩ = some (.int .u32 (m.ref : Int)) ∧
      w.cell? ⟨W.heap.size, 8, none⟩ = some (.slice a.s1 m.masters.length a.c1) ∧ w.cell? ⟨W.heap.size, 9, none⟩ = some (.slice a.s2 m.messages.length a.c2) ∧ w.cell? ⟨W.heap.size, 10, none⟩ = some (.slice a.s3 m.windows.length a.c3))) := fun w h => h.mat
  clear hm hS
  cases hi : Mx.is m
  · rw [Pq.pr_no hi]
    rw [hi] at HI
    obtain ⟨y0, y1, y2, y3, y4, y5, y6, y7, y8, y9, y10⟩ := HY.out _ HR.out
    go_enter Tryd.func13, Tryd.ntmps13
    go_wp2_with fail
    refine (HI.out _ HA.out).mono ?_
    rintro e w1 ⟨rfl, hb1⟩
    have HA1 : Hid (Below W.heap.size W w1) := HA.out.trans (hb1.mono HA.out.size)
    clear hb1 HR HA HI y0 y1 y2 y3 y4 y5 y6 y7 y8 y9 y10
    go_wp2
    go_ret
    exact ⟨rfl, HA1.out⟩
  rw [Pq.pr_is hi]
  rw [hi] at HI
  have HN : Hid (Pq.Num m) := Pq.num_of hi
  clear hi
  obtain ⟨y0, y1, y2, y3, y4, y5, y6, y7, y8, y9, y10⟩ := HY.out _ HR.out
  go_enter Tryd.func13, Tryd.ntmps13
  go_wp2_with fail
  refine (HI.out _ HA.out).mono ?_
  rintro e w1 ⟨rfl, hb1⟩
  have HR1 : Hid (RowT 27 w1 W.heap.size (mCs m a)) := HR.out.on hb1
  have HA1 : Hid (Below W.heap.size W w1) := HA.out.trans (hb1.mono HA.out.size)
  clear hb1 HR HA HI y0 y1 y2 y3 y4 y5 y6 y7 y8 y9 y10
  obtain ⟨y0, y1, y2, y3, y4, y5, y6, y7, y8, y9, y10⟩ := HY.out _ HR1.out
  obtain ⟨b1, hb1⟩ : ∃ b1, Pq.u8 m.level = b1 := ⟨_, rfl⟩
  obtain ⟨b2, hb2⟩ : ∃ b2, Pq.u8 m.nodes = b2 := ⟨_, rfl⟩
  obtain ⟨b3, hb3⟩ : ∃ b3, Pq.u8 m.cycles = b3 := ⟨_, rfl⟩
  have e1 : IntKind.u8.wrap m.level = (b1.toNat : Int) := by rw [← hb1, Pq.u8_mod, IntKind.wrap_u8]
  have e2 : IntKind.u8.wrap m.nodes = (b2.toNat : Int) := by rw [← hb2, Pq.u8_mod, IntKind.wrap_u8]
  have e3 : IntKind.u8.wrap m.cycles = (b3.toNat : Int) := by rw [← hb3, Pq.u8_mod, IntKind.wrap_u8]
  have HK2 : Hid (Mk W (w1.alloc (.cells (Bm.cellsOf [79, b1, b2, b3]).toArray 5)) m a (some ⟨w1.heap.size, 0, none⟩) 4 4 [79, b1, b2, b3]) := by
    have hb : Below w1.heap.size w1 (w1.alloc (.cells (Bm.cellsOf [79, b1, b2, b3]).toArray 5)) := (Below.refl _ _).alloc (Nat.le_refl _) _
    exact ⟨HO.out, HA1.out.trans (hb.mono HA1.out.size), HR1.out.on hb, By.new _ _ _ 4 rfl HA1.out.size (by decide)⟩
  have z3 : ∀ o, (w1.alloc o).cell? ⟨W.heap.size, 3, none⟩ = some (.int .i64 m.length) := fun o => (HY.out _ (HR1.out.on ((Below.refl _ _).alloc (Nat.le_refl _) _))).2.2.2.1
  have HT : Hid (∀ (w : World) (s : Option Addr) (c n : Nat) (l : List UInt8) (x : Int), By W.heap.size w s c n l → W.heap.size ≤ w.heap.size → n ≤ 1000 → 0 ≤ x ∧ x < 65536 → Calls Tryd.prog 25 #[.slice s n c, .int .i64 x] w (Lays W.heap.size w s c l (Pq.two x))) := fun w s c n l x => rtwo_any W.heap.size w s c n l x
  go_wp2_with fail
  refine (HT.out _ _ _ _ [79, b1, b2, b3] m.length HK2.out.by_ HK2.out.bel.size (by decide) HN.out.length).mono ?_
  rintro e w3 ⟨s3, c3, n3, rfl, hby3, hk3⟩
  have HK3 : Hid (Mk W w3 m a s3 c3 n3 ([79, b1, b2, b3] ++ Pq.two m.length)) := HK2.out.set hk3 hby3
  clear hby3 hk3 HK2 y0 y1 y2 y3 y4 y5 y6 y7 y8 y9 y10 z3 e1 e2 e3 HA1 HR1
  obtain ⟨l3, hl3⟩ : ∃ l, [79, b1, b2, b3] ++ Pq.two m.length = l := ⟨_, rfl⟩
  rw [hl3] at HK3
  have q3 : l3.length = 6 := by rw [← hl3]; rfl
  obtain ⟨b4, hb4⟩ : ∃ b4, Pq.u8 m.enable = b4 := ⟨_, rfl⟩
  obtain ⟨b5, hb5⟩ : ∃ b5, Pq.u8 m.unit = b5 := ⟨_, rfl⟩
  have e4 : IntKind.u8.wrap m.enable = (b4.toNat : Int) := by rw [← hb4, Pq.u8_mod, IntKind.wrap_u8]
  have e5 : IntKind.u8.wrap m.unit = (b5.toNat : Int) := by rw [← hb5, Pq.u8_mod, IntKind.wrap_u8]
  have HL : Hid (l3.length = 6) := q3
  have HF3 : Hid ([79, b1, b2, b3] ++ Pq.two m.length = l3 ∧ Pq.u8 m.level = b1 ∧ Pq.u8 m.nodes = b2 ∧ Pq.u8 m.cycles = b3 ∧ Pq.u8 m.enable = b4 ∧ Pq.u8 m.unit = b5) := ⟨hl3, hb1, hb2, hb3, hb4, hb5⟩
  clear q3 hl3 hb1 hb2 hb3 hb4 hb5
  have HK : Hid (Mk W w3 m a s3 c3 n3 l3) := HK3.out
  clear HK3
  go_wp2_with fail
  refine wp_region_held_drew (S := fun w' => RowT 27 w' W.heap.size (mCs m a) ∧ MIn w' m a) (by kernel_rfl) ⟨(HK.out.on (Below.refl _ _).drew).row, (HK.out.on (Below.refl _ _).drew).mem⟩ (fun hHeld => ?_)
  have HK4 : Hid (Mk W w3.drew m a s3 c3 n3 l3) := HK.out.on (Below.refl _ _).drew
  clear HK
  refine Hl.takeL (i := 0) (d := 25) (v := ?_) rfl (by kernel_rfl) (by kernel_rfl) (by kernel_rfl) (fun _ _ _ h => h) (by rfl) ?_ (by assumption) ?_
  rotate_left
  · intro w hSw; obtain ⟨y0, y1, y2, y3, y4, y5, y6, y7, y8, y9, y10⟩ := HY.out _ hSw.1; go_simp; (try with_reducible rfl)
  simp only [Act.put, List.setIfInBounds_toArray, List.set_cons_zero, List.set_cons_succ]
  refine Hl.takeL (i := 1) (d := 26) (v := ?_) rfl (by kernel_rfl) (by kernel_rfl) (by kernel_rfl) (fun _ _ _ h => h) (by rfl) ?_ (by assumption) ?_
  rotate_left
  · intro w hSw; obtain ⟨y0, y1, y2, y3, y4, y5, y6, y7, y8, y9, y10⟩ := HY.out _ hSw.1; go_simp; (try with_reducible rfl)
  simp only [Act.put, List.setIfInBounds_toArray, List.set_cons_zero, List.set_cons_succ]
  refine Hl.takeL (i := 2) (d := 27) (v := ?_) rfl (by kernel_rfl) (by kernel_rfl) (by kernel_rfl) (fun _ _ _ h => h) (by rfl) ?_ (by assumption) ?_
  rotate_left
  · intro w hSw; obtain ⟨y0, y1, y2, y3, y4, y5, y6, y7, y8, y9, y10⟩ := HY.out _ hSw.1; go_simp; (try with_reducible rfl)
  simp only [Act.put, List.setIfInBounds_toArray, List.set_cons_zero, List.set_cons_succ]
  refine Hl.takeL (i := 3) (d := 28) (v := ?_) rfl (by kernel_rfl) (by kernel_rfl) (by kernel_rfl) (fun _ _ _ h => h) (by rfl) ?_ (by assumption) ?_
  rotate_left
  · intro w hSw; obtain ⟨y0, y1, y2, y3, y4, y5, y6, y7, y8, y9, y10⟩ := HY.out _ hSw.1; go_simp; (try with_reducible rfl)
  simp only [Act.put, List.setIfInBounds_toArray, List.set_cons_zero, List.set_cons_succ]
  refine Hl.takeL (i := 4) (d := 29) (v := ?_) rfl (by kernel_rfl) (by kernel_rfl) (by kernel_rfl) (fun _ _ _ h => h) (by rfl) ?_ (by assumption) ?_
  rotate_left
  · intro w hSw; obtain ⟨y0, y1, y2, y3, y4, y5, y6, y7, y8, y9, y10⟩ := HY.out _ hSw.1; go_simp; (try with_reducible rfl)
  simp only [Act.put, List.setIfInBounds_toArray, List.set_cons_zero, List.set_cons_succ]
  refine Hl.takeL (i := 5) (d := 30) (v := ?_) rfl (by kernel_rfl) (by kernel_rfl) (by kernel_rfl) (fun _ _ _ h => h) (by rfl) ?_ (by assumption) ?_
  rotate_left
  · intro w hSw; obtain ⟨y0, y1, y2, y3, y4, y5, y6, y7, y8, y9, y10⟩ := HY.out _ hSw.1; go_simp; (try with_reducible rfl)
  simp only [Act.put, List.setIfInBounds_toArray, List.set_cons_zero, List.set_cons_succ]
  refine Hl.takeL (i := 6) (d := 31) (v := ?_) rfl (by kernel_rfl) (by kernel_rfl) (by kernel_rfl) (fun _ _ _ h => h) (by rfl) ?_ (by assumption) ?_
  rotate_left
  · intro w hSw; obtain ⟨y0, y1, y2, y3, y4, y5, y6, y7, y8, y9, y10⟩ := HY.out _ hSw.1; go_simp; (try with_reducible rfl)
  simp only [Act.put, List.setIfInBounds_toArray, List.set_cons_zero, List.set_cons_succ]
  refine Hl.takeL (i := 9) (d := 34) (v := ?_) rfl (by kernel_rfl) (by kernel_rfl) (by kernel_rfl) (fun _ _ _ h => h) (by rfl) ?_ (by assumption) ?_
  rotate_left
  · intro w hSw; obtain ⟨y0, y1, y2, y3, y4, y5, y6, y7, y8, y9, y10⟩ := HY.out _ hSw.1; go_simp; (try with_reducible rfl)
  simp only [Act.put, List.setIfInBounds_toArray, List.set_cons_zero, List.set_cons_succ]
  refine Hl.takeL (i := 10) (d := 35) (v := ?_) rfl (by kernel_rfl) (by kernel_rfl) (by kernel_rfl) (fun _ _ _ h => h) (by rfl) ?_ (by assumption) ?_
  rotate_left
  · intro w hSw; obtain ⟨y0, y1, y2, y3, y4, y5, y6, y7, y8, y9, y10⟩ := HY.out _ hSw.1; go_simp; (try with_reducible rfl)
  simp only [Act.put, List.setIfInBounds_toArray, List.set_cons_zero, List.set_cons_succ]
  refine Hl.consL (i := 7) rfl (by kernel_rfl) (fun K' hK' => ?_)
  have HS4 : Hid (Src Tryd.prog 1 40 (.slice (some ⟨w3.drew.heap.size, 0, none⟩) 2 2) 2 [.int .u8 (b4.toNat : Int), .int .u8 (b5.toNat : Int)] (w3.drew.alloc (.cells [.int .u8 (b4.toNat : Int), .int .u8 (b5.toNat : Int)].toArray 5))) := Sg.src_new Tryd.underlying40 w3.drew 5 1 2 _ rfl (fun u hu => by simp at hu; rcases hu with rfl | rfl <;> rfl)
  have HK4a : Hid (Mk W (w3.drew.alloc (.cells [.int .u8 (b4.toNat : Int), .int .u8 (b5.toNat : Int)].toArray 5)) m a s3 c3 n3 l3) := HK4.out.al _
  clear HK4 hHeld
  go_simp
  refine hK'.out _ _ ⟨HK4a.out.row, HK4a.out.mem⟩ (fun hHeld => ?_)
  clear hK' K'
  refine Hl.consL (i := 8) rfl (by kernel_rfl) (fun K' hK' => ?_)
  refine Sg.step_appendO elU8 rfl (.tmp 25) (.tmp 32) 40 rfl rfl rfl HK4a.out.by_ HK4a.out.bel.size HS4.out (by have := HL.out; have h9 : _ ≤ 900 := HK4a.out.le 900 (by  show l3.length ≤ 900; omega); omega) ?_
  intro s4 c4 n4 w4 hn h1 hk
  have HK4b : Hid (Mk W w4 m a s4 c4 n4 (l3 ++ [b4, b5])) := HK4a.out.app (r := [b4, b5]) h1 hk
  clear hn h1 hk HK4a HS4 hHeld
  refine hK'.out _ _ ⟨HK4b.out.row, HK4b.out.mem⟩ (fun hHeld => ?_)
  clear hK' K'
  refine Hl.consL (i := 11) rfl (by kernel_rfl) (fun K' hK' => ?_)
  go_simp
  refine (HT.out _ _ _ _ (l3 ++ [b4, b5]) m.init HK4b.out.by_ HK4b.out.bel.size (by have := HL.out; have h9 : _ ≤ 900 := HK4b.out.le 900 (by  rw [List.length_append]; show l3.length + 2 ≤ 900; omega); omega) HN.out.init).mono ?_
  rintro e w5 ⟨s5, c5, n5, rfl, hby, hk⟩
  have HK5 : Hid (Mk W w5 m a s5 c5 n5 (l3 ++ [b4, b5] ++ Pq.two m.init)) := HK4b.out.set hk hby
  clear hby hk HK4b hHeld
  try go_wp2_with fail
  refine hK'.out _ _ ⟨HK5.out.row, HK5.out.mem⟩ (fun hHeld => ?_)
  clear hK' K'
  refine Hl.takeL (i := 12) (d := 3) (v := ?_) rfl (by kernel_rfl) (by kernel_rfl) (by kernel_rfl) (fun _ _ _ h => h) (by rfl) ?_ (by assumption) ?_
  rotate_left
  · intro w hSw; obtain ⟨y0, y1, y2, y3, y4, y5, y6, y7, y8, y9, y10⟩ := HY.out _ hSw.1; go_simp; (try with_reducible rfl)
  simp only [Act.put, List.setIfInBounds_toArray, List.set_cons_zero, List.set_cons_succ]
  refine wpAnyH_done (by kernel_rfl) ?_ _
  clear hHeld
  obtain ⟨l5, hl5⟩ : ∃ l, l3 ++ [b4, b5] ++ Pq.two m.init = l := ⟨_, rfl⟩
  rw [hl5] at HK5
  have HL5 : Hid (l5.length = 10) := by show l5.length = 10; rw [← hl5]; simp [HL.out, Pq.two]
  have HF5 : Hid (l3 ++ [b4, b5] ++ Pq.two m.init = l5) := hl5
  clear hl5 e4 e5 HL
  obtain ⟨b6, hb6⟩ : ∃ b6, Pq.u8 (m.masters.length : Int) = b6 := ⟨_, rfl⟩
  have e6 : IntKind.u8.wrap (m.masters.length : Int) = (b6.toNat : Int) := by rw [← hb6, Pq.u8_mod, IntKind.wrap_u8]
  have e7 : IntKind.i64.wrap (m.ref : Int) = (m.ref : Int) := by have := HN.out.ref; rw [IntKind.wrap_i64]; omega
  have HF6 : Hid (Pq.u8 (m.masters.length : Int) = b6) := hb6
  clear hb6
  have HRf : Hid (0 ≤ (m.ref : Int) ∧ (m.ref : Int) < 65536) := ⟨by omega, by have := HN.out.ref; omega⟩
  go_wp2_with fail
  go_cut [3] from 37 (fun v wx => ∃ s c n, v = .slice s n c ∧ Hid (Mk W wx m a s c n (l5 ++ Pq.two (m.ref : Int) ++ [b6])))
  case first =>
    have HLT : Hid (∀ g, Sg.At_ s5 c5 g → g < w5.heap.size) := HK5.out.by_.lt
    refine wp_region_held_drew (S := fun w' => RowT 27 w' W.heap.size (mCs m a) ∧ MIn w' m a) (by kernel_rfl) ⟨(HK5.out.on (Below.refl _ _).drew).row, (HK5.out.on (Below.refl _ _).drew).mem⟩ (fun hHeld => ?_)
    have HK6 : Hid (Mk W w5.drew m a s5 c5 n5 l5) := HK5.out.on (Below.refl _ _).drew
    clear HK5
    refine Hl.takeL (i := 0) (d := 37) (v := ?_) rfl (by kernel_rfl) (by kernel_rfl) (by kernel_rfl) (fun _ _ _ h => h) (by rfl) ?_ (by assumption) ?_
    rotate_left
    · intro w hSw; obtain ⟨y0, y1, y2, y3, y4, y5, y6, y7, y8, y9, y10⟩ := HY.out _ hSw.1; go_simp; (try with_reducible rfl)
    simp only [Act.put, List.setIfInBounds_toArray, List.set_cons_zero, List.set_cons_succ]
    refine Hl.takeL (i := 1) (d := 38) (v := ?_) rfl (by kernel_rfl) (by kernel_rfl) (by kernel_rfl) (fun _ _ _ h => h) (by rfl) ?_ (by assumption) ?_
    rotate_left
    · intro w hSw; obtain ⟨y0, y1, y2, y3, y4, y5, y6, y7, y8, y9, y10⟩ := HY.out _ hSw.1; go_simp; (try with_reducible rfl)
    simp only [Act.put, List.setIfInBounds_toArray, List.set_cons_zero, List.set_cons_succ]
    refine Hl.takeL (i := 2) (d := 39) (v := ?_) rfl (by kernel_rfl) (by kernel_rfl) (by kernel_rfl) (fun _ _ _ h => h) (by rfl) ?_ (by assumption) ?_
    rotate_left
    · intro w hSw; obtain ⟨y0, y1, y2, y3, y4, y5, y6, y7, y8, y9, y10⟩ := HY.out _ hSw.1; go_simp; (try with_reducible rfl)
    simp only [Act.put, List.setIfInBounds_toArray, List.set_cons_zero, List.set_cons_succ]
    refine Hl.takeL (i := 3) (d := 40) (v := ?_) rfl (by kernel_rfl) (by kernel_rfl) (by kernel_rfl) (fun _ _ _ h => h) (by rfl) ?_ (by assumption) ?_
    rotate_left
    · intro w hSw; obtain ⟨y0, y1, y2, y3, y4, y5, y6, y7, y8, y9, y10⟩ := HY.out _ hSw.1; go_simp; (try with_reducible rfl)
    simp only [Act.put, List.setIfInBounds_toArray, List.set_cons_zero, List.set_cons_succ]
    refine Hl.takeL (i := 5) (d := 42) (v := ?_) rfl (by kernel_rfl) (by kernel_rfl) (by kernel_rfl) (fun _ _ _ h => h) (by rfl) ?_ (by assumption) ?_
    rotate_left
    · intro w hSw; obtain ⟨y0, y1, y2, y3, y4, y5, y6, y7, y8, y9, y10⟩ := HY.out _ hSw.1; go_simp; (try with_reducible rfl)
    simp only [Act.put, List.setIfInBounds_toArray, List.set_cons_zero, List.set_cons_succ]
    refine Hl.takeL (i := 6) (d := 43) (v := ?_) rfl (by kernel_rfl) (by kernel_rfl) (by kernel_rfl) (fun _ _ _ h => h) (by rfl) ?_ (by assumption) ?_
    rotate_left
    · intro w hSw; obtain ⟨y0, y1, y2, y3, y4, y5, y6, y7, y8, y9, y10⟩ := HY.out _ hSw.1; go_simp; (try with_reducible rfl)
    simp only [Act.put, List.setIfInBounds_toArray, List.set_cons_zero, List.set_cons_succ]
    refine Hl.takeL (i := 7) (d := 44) (v := ?_) rfl (by kernel_rfl) (by kernel_rfl) (by kernel_rfl) (fun _ _ _ h => h) (by rfl) ?_ (by assumption) ?_
    rotate_left
    · intro w hSw; obtain ⟨y0, y1, y2, y3, y4, y5, y6, y7, y8, y9, y10⟩ := HY.out _ hSw.1; go_simp; (try with_reducible rfl)
    simp only [Act.put, List.setIfInBounds_toArray, List.set_cons_zero, List.set_cons_succ]
    refine Hl.takeL (i := 8) (d := 45) (v := ?_) rfl (by kernel_rfl) (by kernel_rfl) (by kernel_rfl) (fun _ _ _ h => h) (by rfl) ?_ (by assumption) ?_
    rotate_left
    · intro w hSw; obtain ⟨y0, y1, y2, y3, y4, y5, y6, y7, y8, y9, y10⟩ := HY.out _ hSw.1; go_simp; (try with_reducible rfl)
    simp only [Act.put, List.setIfInBounds_toArray, List.set_cons_zero, List.set_cons_succ]
    refine Hl.consL2 (i := 4) (j := 9) rfl rfl (by kernel_rfl) (fun K' hK' => ?_) (fun K' hK' => ?_)
    · skip
      go_simp
      refine (HT.out _ _ _ _ (l5) (m.ref : Int) HK6.out.by_ HK6.out.bel.size (by have := HL5.out; have h9 : _ ≤ 900 := HK6.out.le 900 (by  show l5.length ≤ 900; omega); omega) HRf.out).mono ?_
      rintro e w7 ⟨s7, c7, n7, rfl, hby, hk⟩
      have HK7 : Hid (Mk W w7 m a s7 c7 n7 (l5 ++ Pq.two (m.ref : Int))) := HK6.out.set hk hby
      clear hby hk HK6 hHeld
      try go_wp2_with fail
      refine hK'.out _ _ ⟨HK7.out.row, HK7.out.mem⟩ (fun hHeld => ?_)
      clear hK' K'
      refine Hl.consL (i := 9) rfl (by kernel_rfl) (fun K' hK' => ?_)
      have HS7 : Hid (Src Tryd.prog 1 40 (.slice (some ⟨w7.heap.size, 0, none⟩) 1 1) 1 [.int .u8 (b6.toNat : Int)] (w7.alloc (.cells [.int .u8 (b6.toNat : Int)].toArray 5))) := Sg.src_new Tryd.underlying40 w7 5 1 1 _ rfl (fun u hu => by simp at hu; subst hu; rfl)
      have HK7a : Hid (Mk W (w7.alloc (.cells [.int .u8 (b6.toNat : Int)].toArray 5)) m a s7 c7 n7 (l5 ++ Pq.two (m.ref : Int))) := HK7.out.al _
      clear HK7 hHeld
      go_simp
      refine hK'.out _ _ ⟨HK7a.out.row, HK7a.out.mem⟩ (fun hHeld => ?_)
      clear hK' K'
      refine Hl.consL (i := 10) rfl (by kernel_rfl) (fun K' hK' => ?_)
      refine Sg.step_appendO elU8 rfl (.tmp 41) (.tmp 46) 40 rfl rfl rfl HK7a.out.by_ HK7a.out.bel.size HS7.out (by have := HL5.out; have h9 : _ ≤ 900 := HK7a.out.le 900 (by  rw [List.length_append]; show l5.length + 2 ≤ 900; omega); omega) ?_
      intro s8 c8 n8 w8 hn h1 hk
      have HK8 : Hid (Mk W w8 m a s8 c8 n8 ((l5 ++ Pq.two (m.ref : Int)) ++ [b6])) := HK7a.out.app (r := [b6]) h1 hk
      clear hn h1 hk HK7a HS7 hHeld
      refine hK'.out _ _ ⟨HK8.out.row, HK8.out.mem⟩ (fun hHeld => ?_)
      clear hK' K'
      refine Hl.takeL (i := 11) (d := 3) (v := ?_) rfl (by kernel_rfl) (by kernel_rfl) (by kernel_rfl) (fun _ _ _ h => h) (by rfl) ?_ (by assumption) ?_
      rotate_left
      · intro w hSw; obtain ⟨y0, y1, y2, y3, y4, y5, y6, y7, y8, y9, y10⟩ := HY.out _ hSw.1; go_simp; (try with_reducible rfl)
      simp only [Act.put, List.setIfInBounds_toArray, List.set_cons_zero, List.set_cons_succ]
      refine wpAnyH_done (by kernel_rfl) ?_ _
      go_wp2_with fail
      go_meet
      case rel => exact ⟨s8, c8, n8, rfl, HK8⟩
    · skip
      have HS6 : Hid (Src Tryd.prog 1 40 (.slice (some ⟨w5.drew.heap.size, 0, none⟩) 1 1) 1 [.int .u8 (b6.toNat : Int)] (w5.drew.alloc (.cells [.int .u8 (b6.toNat : Int)].toArray 5))) := Sg.src_new Tryd.underlying40 w5.drew 5 1 1 _ rfl (fun u hu => by simp at hu; subst hu; rfl)
      have HK6a : Hid (Mk W (w5.drew.alloc (.cells [.int .u8 (b6.toNat : Int)].toArray 5)) m a s5 c5 n5 l5) := HK6.out.al _
      clear HK6 hHeld
      go_simp
      refine hK'.out _ _ ⟨HK6a.out.row, HK6a.out.mem⟩ (fun hHeld => ?_)
      clear hK' K'
      refine Hl.consL (i := 4) rfl (by kernel_rfl) (fun K' hK' => ?_)
      have HB6 : Hid (RowT 5 (w5.drew.alloc (.cells [.int .u8 (b6.toNat : Int)].toArray 5)) w5.heap.size [.int .u8 (b6.toNat : Int)].toArray) := RowT.new _ w5.drew _
      go_simp
      refine (HT.out _ _ _ _ (l5) (m.ref : Int) HK6a.out.by_ HK6a.out.bel.size (by have := HL5.out; have h9 : _ ≤ 900 := HK6a.out.le 900 (by  show l5.length ≤ 900; omega); omega) HRf.out).mono ?_
      rintro e w7 ⟨s7, c7, n7, rfl, hby, hk⟩
      have HK7 : Hid (Mk W w7 m a s7 c7 n7 (l5 ++ Pq.two (m.ref : Int))) := HK6a.out.set hk hby
      have HB7 : Hid (RowT 5 w7 w5.heap.size [.int .u8 (b6.toNat : Int)].toArray) := HB6.out.kept hk (fun k => Nat.lt_irrefl _ (HLT.out _ k))
      clear hby hk HK6a hHeld
      try go_wp2_with fail
      refine hK'.out _ _ ⟨HK7.out.row, HK7.out.mem⟩ (fun hHeld => ?_)
      clear hK' K'
      have HS8 : Hid (Src Tryd.prog 1 40 (.slice (some ⟨w5.heap.size, 0, none⟩) 1 1) 1 [.int .u8 (b6.toNat : Int)] w7) := Sg.src_row Tryd.underlying40 1 1 _ rfl (fun u hu => by simp at hu; subst hu; rfl) HB7.out
      refine Hl.consL (i := 10) rfl (by kernel_rfl) (fun K' hK' => ?_)
      refine Sg.step_appendO elU8 rfl (.tmp 41) (.tmp 46) 40 rfl rfl rfl HK7.out.by_ HK7.out.bel.size HS8.out (by have := HL5.out; have h9 : _ ≤ 900 := HK7.out.le 900 (by  rw [List.length_append]; show l5.length + 2 ≤ 900; omega); omega) ?_
      intro s8 c8 n8 w8 hn h1 hk
      have HK8 : Hid (Mk W w8 m a s8 c8 n8 ((l5 ++ Pq.two (m.ref : Int)) ++ [b6])) := HK7.out.app (r := [b6]) h1 hk
      clear hn h1 hk HK7 HS8 hHeld
      refine hK'.out _ _ ⟨HK8.out.row, HK8.out.mem⟩ (fun hHeld => ?_)
      clear hK' K'
      refine Hl.takeL (i := 11) (d := 3) (v := ?_) rfl (by kernel_rfl) (by kernel_rfl) (by kernel_rfl) (fun _ _ _ h => h) (by rfl) ?_ (by assumption) ?_
      rotate_left
      · intro w hSw; obtain ⟨y0, y1, y2, y3, y4, y5, y6, y7, y8, y9, y10⟩ := HY.out _ hSw.1; go_simp; (try with_reducible rfl)
      simp only [Act.put, List.setIfInBounds_toArray, List.set_cons_zero, List.set_cons_succ]
      refine wpAnyH_done (by kernel_rfl) ?_ _
      go_wp2_with fail
      go_meet
      case rel => exact ⟨s8, c8, n8, rfl, HK8⟩
  case rest =>
    obtain ⟨s8, c8, n8, rfl, HK8⟩ := hcut
    obtain ⟨l8, hl8⟩ : ∃ l, l5 ++ Pq.two (m.ref : Int) ++ [b6] = l := ⟨_, rfl⟩
    rw [hl8] at HK8
    have HL8 : Hid (l8.length = 13) := by show l8.length = 13; rw [← hl8, List.length_append, List.length_append, HL5.out]; rfl
    have HF8 : Hid (l5 ++ Pq.two (m.ref : Int) ++ [b6] = l8) := hl8
    clear hl8 e6 e7 HL5 HRf
    go_wp2_with fail
    go_loopw [3, 4] (fun vb vi wr => ∃ (k : Nat) (s : Option Addr) (c n : Nat), k ≤ m.masters.length ∧ vi = .int .i64 (k : Int) ∧ vb = .slice s n c ∧ Hid (Mk W wr m a s c n (l8 ++ (m.masters.take k).map Pq.u8))) (fun vb vi _ => m.masters.length - (intOf vi).toNat)
    case atStart =>
      refine ⟨0, s8, c8, n8, Nat.zero_le _, rfl, rfl, ?_⟩
      rw [List.take_zero, List.map_nil, List.append_nil]
      exact HK8
    case round =>
      clear HK8
      obtain ⟨k, s, c, n, hk, rfl, rfl, HK⟩ := hrel
      have HL : Hid (m.masters.length ≤ 4) := HN.out.l1
      have y8 := (HY.out _ HK.out.row).2.2.2.2.2.2.2.2.1
      by_cases hkl : k < m.masters.length
      · obtain ⟨x, hx⟩ : ∃ x, m.masters[k]? = some x := ⟨_, List.getElem?_eq_getElem hkl⟩
        obtain ⟨g, o, hs, _, hc⟩ := HK.out.mem.master hx
        rw [hs] at y8
        obtain ⟨bx, hbx⟩ : ∃ bx, Pq.u8 x = bx := ⟨_, rfl⟩
        have ex : IntKind.u8.wrap x = (bx.toNat : Int) := by rw [← hbx, Pq.u8_mod, IntKind.wrap_u8]
        have ki : (k : Int) < (m.masters.length : Int) := by omega
        have kb : (k : Int) < 1000 := by have := HL.out; omega
        have HX : Hid ((m.masters.take (k + 1)).map Pq.u8 = (m.masters.take k).map Pq.u8 ++ [bx]) := by
          show _ = _
          rw [List.take_add_one, hx, List.map_append, ← hbx]; rfl
        have HLe : Hid (n ≤ 900) := HK.out.le 900 (by have := HL8.out; rw [List.length_append, List.length_map, List.length_take]; have := HL.out; omega)
        have HS : Hid (Src Tryd.prog 1 40 (.slice (some ⟨wr.heap.size, 0, none⟩) 1 1) 1 [.int .u8 (bx.toNat : Int)] (wr.alloc (.cells [.int .u8 (bx.toNat : Int)].toArray 5))) := Sg.src_new Tryd.underlying40 wr 5 1 1 _ rfl (fun u hu => by simp at hu; subst hu; rfl)
        have HKa : Hid (Mk W (wr.alloc (.cells [.int .u8 (bx.toNat : Int)].toArray 5)) m a s c n (l8 ++ (m.masters.take k).map Pq.u8)) := HK.out.al _
        clear hx hs hbx HK
        go_wp2_with (refine Sg.wpList_appendO elU8 rfl (.tmp 55) (.tmp 62) 40 rfl rfl rfl HKa.out.by_ HKa.out.bel.size HS.out (by have := HLe.out; omega) ?_; intro s' c' n' w' hn h1 hk1; have HKb : Hid (Mk W w' m a s' c' n' (l8 ++ (m.masters.take k).map Pq.u8 ++ [bx])) := HKa.out.app (r := [bx]) h1 hk1; clear hn h1 hk1)
        go_roundw
        case rel =>
          refine ⟨k + 1, s', c', n', by omega, rfl, rfl, ?_⟩
          show Mk _ _ _ _ _ _ _ _
          rw [HX.out, ← List.append_assoc]
          exact HKb.out
        case measure => simp only [intOf]; omega
      · obtain rfl : k = m.masters.length := by omega
        have kn : ¬ ((m.masters.length : Int) < (m.masters.length : Int)) := by omega
        rw [List.take_length] at HK
        obtain ⟨l9, hl9⟩ : ∃ l, l8 ++ m.masters.map Pq.u8 = l := ⟨_, rfl⟩
        rw [hl9] at HK
        have HL9 : Hid (l9.length ≤ 17) := by show l9.length ≤ 17; rw [← hl9, List.length_append, List.length_map]; have := HL8.out; have := HL.out; omega
        have HF9 : Hid (l8 ++ m.masters.map Pq.u8 = l9) := hl9
        have y9 := (HY.out _ HK.out.row).2.2.2.2.2.2.2.2.2.1
        obtain ⟨b10, hb10⟩ : ∃ b10, Pq.u8 (m.messages.length : Int) = b10 := ⟨_, rfl⟩
        have e10 : IntKind.u8.wrap (m.messages.length : Int) = (b10.toNat : Int) := by rw [← hb10, Pq.u8_mod, IntKind.wrap_u8]
        have HF10 : Hid (Pq.u8 (m.messages.length : Int) = b10) := hb10
        have HLe : Hid (n ≤ 900) := HK.out.le 900 (by have := HL9.out; omega)
        have HS : Hid (Src Tryd.prog 1 40 (.slice (some ⟨wr.heap.size, 0, none⟩) 1 1) 1 [.int .u8 (b10.toNat : Int)] (wr.alloc (.cells [.int .u8 (b10.toNat : Int)].toArray 5))) := Sg.src_new Tryd.underlying40 wr 5 1 1 _ rfl (fun u hu => by simp at hu; subst hu; rfl)
        have HKa : Hid (Mk W (wr.alloc (.cells [.int .u8 (b10.toNat : Int)].toArray 5)) m a s c n l9) := HK.out.al _
        clear hl9 hb10 HK HL HL8
        go_wp2_with (refine Sg.wpList_appendO elU8 rfl (.tmp 64) (.tmp 69) 40 rfl rfl rfl HKa.out.by_ HKa.out.bel.size HS.out (by have := HLe.out; omega) ?_; intro s' c' n' w' hn h1 hk1; have HKb : Hid (Mk W w' m a s' c' n' (l9 ++ [b10])) := HKa.out.app (r := [b10]) h1 hk1; clear hn h1 hk1)
        clear HKa HS e10 y8 y9
        go_loopw [3, 5] (fun vb vi wr => ∃ (k : Nat) (s : Option Addr) (c n : Nat), k ≤ m.messages.length ∧ vi = .int .i64 (k : Int) ∧ vb = .slice s n c ∧ Hid (Mk W wr m a s c n (l9 ++ [b10] ++ (m.messages.take k).flatMap Pq.mes))) (fun vb vi _ => m.messages.length - (intOf vi).toNat)
        case atStart =>
          refine ⟨0, s', c', n', Nat.zero_le _, rfl, rfl, ?_⟩
          rw [List.take_zero, List.flatMap_nil, List.append_nil]
          exact HKb
        case round =>
          clear HKb
          obtain ⟨k, s, c, n, hk, rfl, rfl, HK⟩ := hrel
          have HL : Hid (m.messages.length ≤ 12) := HN.out.l2
          have y9 := (HY.out _ HK.out.row).2.2.2.2.2.2.2.2.2.1
          by_cases hkl : k < m.messages.length
          · obtain ⟨x, hx⟩ : ∃ x, m.messages[k]? = some x := ⟨_, List.getElem?_eq_getElem hkl⟩
            obtain ⟨g, o, hs, _, _, _, c2⟩ := HK.out.mem.message hx
            have HCx : Hid (∀ w', MIn w' m a → w'.cell? ⟨g, o + k * 3, none⟩ = some (.int .u32 (x.id : Int)) ∧ w'.cell? ⟨g, o + k * 3 + 1, none⟩ = some (.int .i64 x.owner) ∧ w'.cell? ⟨g, o + k * 3 + 2, none⟩ = some (.bool x.event)) := fun w' hm' => by
              obtain ⟨g', o', hs', _, h1, h2, h3⟩ := hm'.message hx
              rw [hs] at hs'
              injection hs' with hs'
              injection hs' with e1 e2
              subst e1 e2
              exact ⟨h1, h2, h3⟩
            have HY9 : Hid (∀ w', RowT 27 w' W.heap.size (mCs m a) → w'.cell? ⟨W.heap.size, 9, none⟩ = some (.slice (some ⟨g, o, none⟩) m.messages.length a.c2)) := fun w' hr => by
              have := (HY.out _ hr).2.2.2.2.2.2.2.2.2.1
              rw [hs] at this
              exact this
            rw [hs] at y9
            have hxm := HN.out.messages x (List.mem_of_getElem? hx)
            obtain ⟨bo, hbo⟩ : ∃ bo, Pq.u8 x.owner = bo := ⟨_, rfl⟩
            have eo : IntKind.u8.wrap x.owner = (bo.toNat : Int) := by rw [← hbo, Pq.u8_mod, IntKind.wrap_u8]
            have ei : IntKind.i64.wrap (x.id : Int) = (x.id : Int) := by rw [IntKind.wrap_i64]; have := hxm.1; omega
            have HId : Hid (0 ≤ (x.id : Int) ∧ (x.id : Int) < 65536) := ⟨by omega, by have := hxm.1; omega⟩
            have ki : (k : Int) < (m.messages.length : Int) := by omega
            have kb : (k : Int) < 1000 := by have := HL.out; omega
            obtain ⟨l0, hl0⟩ : ∃ l, l9 ++ [b10] ++ (m.messages.take k).flatMap Pq.mes = l := ⟨_, rfl⟩
            rw [hl0] at HK
            have HL0 : Hid (l0.length ≤ 100) := by show l0.length ≤ 100; rw [← hl0, List.length_append, List.length_append, Pq.flat_len Pq.mes 4 Pq.mes_len, List.length_take]; have := HL9.out; have := HL.out; simp; omega
            have HX : Hid (∀ be : UInt8, be = (if x.event then 1 else 0) → l9 ++ [b10] ++ (m.messages.take (k + 1)).flatMap Pq.mes = l0 ++ Pq.two (x.id : Int) ++ [bo, be]) := fun be hbe => by
              rw [List.take_add_one, hx, List.flatMap_append, ← hl0, ← hbo, hbe]
              simp [Pq.mes]
            have HLT : Hid (∀ g, Sg.At_ s c g → g < wr.heap.size) := HK.out.by_.lt
            clear hx hs hxm hbo hl0
            cases hev : x.event
            · rw [hev] at c2
              have HXb := HX.out 0 (by rw [hev]; rfl)
              clear HX
              go_wp2_with fail
              refine wp_region_held_drew (S := fun w' => RowT 27 w' W.heap.size (mCs m a) ∧ MIn w' m a) (by kernel_rfl) ⟨(HK.out.on (Below.refl _ _).drew).row, (HK.out.on (Below.refl _ _).drew).mem⟩ (fun hHeld => ?_)
              have HKd : Hid (Mk W wr.drew m a s c n l0) := HK.out.on (Below.refl _ _).drew
              clear HK c2 y9
              refine Hl.takeL (i := 0) (d := 84) (v := ?_) rfl (by kernel_rfl) (by kernel_rfl) (by kernel_rfl) (fun _ _ _ h => h) (by rfl) ?_ (by assumption) ?_
              rotate_left
              · intro w hSw; have y9' := HY9.out _ hSw.1; obtain ⟨q0, q1, q2⟩ := HCx.out _ hSw.2; go_simp; (try with_reducible rfl)
              simp only [Act.put, List.setIfInBounds_toArray, List.set_cons_zero, List.set_cons_succ]
              refine Hl.takeL (i := 1) (d := 85) (v := ?_) rfl (by kernel_rfl) (by kernel_rfl) (by kernel_rfl) (fun _ _ _ h => h) (by rfl) ?_ (by assumption) ?_
              rotate_left
              · intro w hSw; have y9' := HY9.out _ hSw.1; obtain ⟨q0, q1, q2⟩ := HCx.out _ hSw.2; go_simp; (try with_reducible rfl)
              simp only [Act.put, List.setIfInBounds_toArray, List.set_cons_zero, List.set_cons_succ]
              refine Hl.takeL (i := 2) (d := 86) (v := ?_) rfl (by kernel_rfl) (by kernel_rfl) (by kernel_rfl) (fun _ _ _ h => h) (by rfl) ?_ (by assumption) ?_
              rotate_left
              · intro w hSw; have y9' := HY9.out _ hSw.1; obtain ⟨q0, q1, q2⟩ := HCx.out _ hSw.2; go_simp; (try with_reducible rfl)
              simp only [Act.put, List.setIfInBounds_toArray, List.set_cons_zero, List.set_cons_succ]
              refine Hl.takeL (i := 3) (d := 87) (v := ?_) rfl (by kernel_rfl) (by kernel_rfl) (by kernel_rfl) (fun _ _ _ h => h) (by rfl) ?_ (by assumption) ?_
              rotate_left
              · intro w hSw; have y9' := HY9.out _ hSw.1; obtain ⟨q0, q1, q2⟩ := HCx.out _ hSw.2; go_simp; (try with_reducible rfl)
              simp only [Act.put, List.setIfInBounds_toArray, List.set_cons_zero, List.set_cons_succ]
              refine Hl.takeL (i := 4) (d := 88) (v := ?_) rfl (by kernel_rfl) (by kernel_rfl) (by kernel_rfl) (fun _ _ _ h => h) (by rfl) ?_ (by assumption) ?_
              rotate_left
              · intro w hSw; have y9' := HY9.out _ hSw.1; obtain ⟨q0, q1, q2⟩ := HCx.out _ hSw.2; go_simp; (try with_reducible rfl)
              simp only [Act.put, List.setIfInBounds_toArray, List.set_cons_zero, List.set_cons_succ]
              refine Hl.takeL (i := 5) (d := 89) (v := ?_) rfl (by kernel_rfl) (by kernel_rfl) (by kernel_rfl) (fun _ _ _ h => h) (by rfl) ?_ (by assumption) ?_
              rotate_left
              · intro w hSw; have y9' := HY9.out _ hSw.1; obtain ⟨q0, q1, q2⟩ := HCx.out _ hSw.2; go_simp; (try with_reducible rfl)
              simp only [Act.put, List.setIfInBounds_toArray, List.set_cons_zero, List.set_cons_succ]
              refine Hl.takeL (i := 6) (d := 90) (v := ?_) rfl (by kernel_rfl) (by kernel_rfl) (by kernel_rfl) (fun _ _ _ h => h) (by rfl) ?_ (by assumption) ?_
              rotate_left
              · intro w hSw; have y9' := HY9.out _ hSw.1; obtain ⟨q0, q1, q2⟩ := HCx.out _ hSw.2; go_simp; (try with_reducible rfl)
              simp only [Act.put, List.setIfInBounds_toArray, List.set_cons_zero, List.set_cons_succ]
              refine Hl.takeL (i := 7) (d := 91) (v := ?_) rfl (by kernel_rfl) (by kernel_rfl) (by kernel_rfl) (fun _ _ _ h => h) (by rfl) ?_ (by assumption) ?_
              rotate_left
              · intro w hSw; have y9' := HY9.out _ hSw.1; obtain ⟨q0, q1, q2⟩ := HCx.out _ hSw.2; go_simp; (try with_reducible rfl)
              simp only [Act.put, List.setIfInBounds_toArray, List.set_cons_zero, List.set_cons_succ]
              refine Hl.takeL (i := 9) (d := 93) (v := ?_) rfl (by kernel_rfl) (by kernel_rfl) (by kernel_rfl) (fun _ _ _ h => h) (by rfl) ?_ (by assumption) ?_
              rotate_left
              · intro w hSw; have y9' := HY9.out _ hSw.1; obtain ⟨q0, q1, q2⟩ := HCx.out _ hSw.2; go_simp; (try with_reducible rfl)
              simp only [Act.put, List.setIfInBounds_toArray, List.set_cons_zero, List.set_cons_succ]
              refine Hl.takeL (i := 10) (d := 94) (v := ?_) rfl (by kernel_rfl) (by kernel_rfl) (by kernel_rfl) (fun _ _ _ h => h) (by rfl) ?_ (by assumption) ?_
              rotate_left
              · intro w hSw; have y9' := HY9.out _ hSw.1; obtain ⟨q0, q1, q2⟩ := HCx.out _ hSw.2; go_simp; (try with_reducible rfl)
              simp only [Act.put, List.setIfInBounds_toArray, List.set_cons_zero, List.set_cons_succ]
              refine Hl.takeL (i := 11) (d := 95) (v := ?_) rfl (by kernel_rfl) (by kernel_rfl) (by kernel_rfl) (fun _ _ _ h => h) (by rfl) ?_ (by assumption) ?_
              rotate_left
              · intro w hSw; have y9' := HY9.out _ hSw.1; obtain ⟨q0, q1, q2⟩ := HCx.out _ hSw.2; go_simp; (try with_reducible rfl)
              simp only [Act.put, List.setIfInBounds_toArray, List.set_cons_zero, List.set_cons_succ]
              refine Hl.takeL (i := 12) (d := 96) (v := ?_) rfl (by kernel_rfl) (by kernel_rfl) (by kernel_rfl) (fun _ _ _ h => h) (by rfl) ?_ (by assumption) ?_
              rotate_left
              · intro w hSw; have y9' := HY9.out _ hSw.1; obtain ⟨q0, q1, q2⟩ := HCx.out _ hSw.2; go_simp; (try with_reducible rfl)
              simp only [Act.put, List.setIfInBounds_toArray, List.set_cons_zero, List.set_cons_succ]
              refine Hl.takeL (i := 13) (d := 97) (v := ?_) rfl (by kernel_rfl) (by kernel_rfl) (by kernel_rfl) (fun _ _ _ h => h) (by rfl) ?_ (by assumption) ?_
              rotate_left
              · intro w hSw; have y9' := HY9.out _ hSw.1; obtain ⟨q0, q1, q2⟩ := HCx.out _ hSw.2; go_simp; (try with_reducible rfl)
              simp only [Act.put, List.setIfInBounds_toArray, List.set_cons_zero, List.set_cons_succ]
              refine Hl.takeL (i := 14) (d := 98) (v := ?_) rfl (by kernel_rfl) (by kernel_rfl) (by kernel_rfl) (fun _ _ _ h => h) (by rfl) ?_ (by assumption) ?_
              rotate_left
              · intro w hSw; have y9' := HY9.out _ hSw.1; obtain ⟨q0, q1, q2⟩ := HCx.out _ hSw.2; go_simp; (try with_reducible rfl)
              simp only [Act.put, List.setIfInBounds_toArray, List.set_cons_zero, List.set_cons_succ]
              refine Hl.takeL (i := 15) (d := 99) (v := ?_) rfl (by kernel_rfl) (by kernel_rfl) (by kernel_rfl) (fun _ _ _ h => h) (by rfl) ?_ (by assumption) ?_
              rotate_left
              · intro w hSw; have y9' := HY9.out _ hSw.1; obtain ⟨q0, q1, q2⟩ := HCx.out _ hSw.2; go_simp; (try with_reducible rfl)
              simp only [Act.put, List.setIfInBounds_toArray, List.set_cons_zero, List.set_cons_succ]
              refine Hl.takeL (i := 16) (d := 100) (v := ?_) rfl (by kernel_rfl) (by kernel_rfl) (by kernel_rfl) (fun _ _ _ h => h) (by rfl) ?_ (by assumption) ?_
              rotate_left
              · intro w hSw; have y9' := HY9.out _ hSw.1; obtain ⟨q0, q1, q2⟩ := HCx.out _ hSw.2; go_simp; (try with_reducible rfl)
              simp only [Act.put, List.setIfInBounds_toArray, List.set_cons_zero, List.set_cons_succ]
              refine Hl.consL2 (i := 8) (j := 17) rfl rfl (by kernel_rfl) (fun K' hK' => ?_) (fun K' hK' => ?_)
              · skip
                go_simp
                refine (HT.out _ _ _ _ l0 (x.id : Int) HKd.out.by_ HKd.out.bel.size (by have := HL0.out; have h9 : _ ≤ 900 := HKd.out.le 900 (by  show l0.length ≤ 900; omega); omega) HId.out).mono ?_
                rintro e w7 ⟨s7, c7, n7, rfl, hby, hk⟩
                have HK7 : Hid (Mk W w7 m a s7 c7 n7 (l0 ++ Pq.two (x.id : Int))) := HKd.out.set hk hby
                clear hby hk HKd hHeld
                try go_wp2_with fail
                refine hK'.out _ _ ⟨HK7.out.row, HK7.out.mem⟩ (fun hHeld => ?_)
                clear hK' K'
                refine Hl.consL (i := 17) rfl (by kernel_rfl) (fun K' hK' => ?_)
                have HS : Hid (Src Tryd.prog 1 40 (.slice (some ⟨w7.heap.size, 0, none⟩) 2 2) 2 [.int .u8 (bo.toNat : Int), .int .u8 0] (w7.alloc (.cells [.int .u8 (bo.toNat : Int), .int .u8 0].toArray 5))) := Sg.src_new Tryd.underlying40 w7 5 1 2 _ rfl (fun u hu => by simp at hu; rcases hu with rfl | rfl <;> rfl)
                have HK7a : Hid (Mk W (w7.alloc (.cells [.int .u8 (bo.toNat : Int), .int .u8 0].toArray 5)) m a s7 c7 n7 (l0 ++ Pq.two (x.id : Int))) := HK7.out.al _
                clear HK7 hHeld
                go_simp
                refine hK'.out _ _ ⟨HK7a.out.row, HK7a.out.mem⟩ (fun hHeld => ?_)
                clear hK' K'
                refine Hl.consL (i := 18) rfl (by kernel_rfl) (fun K' hK' => ?_)
                refine Sg.step_appendO elU8 rfl (.tmp 92) (.tmp 101) 40 rfl rfl rfl HK7a.out.by_ HK7a.out.bel.size HS.out (by have := HL0.out; have h9 : _ ≤ 900 := HK7a.out.le 900 (by rw [List.length_append]; show l0.length + 2 ≤ 900; omega); omega) ?_
                intro s9 c9 n9 w9 hn h1 hk
                have HK9 : Hid (Mk W w9 m a s9 c9 n9 ((l0 ++ Pq.two (x.id : Int)) ++ [bo, 0])) := HK7a.out.app (r := [bo, 0]) h1 hk
                clear hn h1 hk HK7a HS hHeld
                refine hK'.out _ _ ⟨HK9.out.row, HK9.out.mem⟩ (fun hHeld => ?_)
                clear hK' K'
                refine Hl.takeL (i := 19) (d := 3) (v := ?_) rfl (by kernel_rfl) (by kernel_rfl) (by kernel_rfl) (fun _ _ _ h => h) (by rfl) ?_ (by assumption) ?_
                rotate_left
                · intro w hSw; have y9' := HY9.out _ hSw.1; obtain ⟨q0, q1, q2⟩ := HCx.out _ hSw.2; go_simp; (try with_reducible rfl)
                simp only [Act.put, List.setIfInBounds_toArray, List.set_cons_zero, List.set_cons_succ]
                refine wpAnyH_done (by kernel_rfl) ?_ _
                clear hHeld
                go_wp2_with fail
                go_roundw
                case rel =>
                  refine ⟨k + 1, s9, c9, n9, by omega, rfl, rfl, ?_⟩
                  show Mk _ _ _ _ _ _ _ _
                  rw [HXb]
                  exact HK9.out
                case measure => simp only [intOf]; omega
              · skip
                have HB6 : Hid (RowT 5 (wr.drew.alloc (.cells [.int .u8 (bo.toNat : Int), .int .u8 0].toArray 5)) wr.heap.size [.int .u8 (bo.toNat : Int), .int .u8 0].toArray) := RowT.new _ wr.drew _
                have HKe : Hid (Mk W (wr.drew.alloc (.cells [.int .u8 (bo.toNat : Int), .int .u8 0].toArray 5)) m a s c n l0) := HKd.out.al _
                clear HKd hHeld
                go_simp
                refine hK'.out _ _ ⟨HKe.out.row, HKe.out.mem⟩ (fun hHeld => ?_)
                clear hK' K'
                refine Hl.consL (i := 8) rfl (by kernel_rfl) (fun K' hK' => ?_)
                go_simp
                refine (HT.out _ _ _ _ l0 (x.id : Int) HKe.out.by_ HKe.out.bel.size (by have := HL0.out; have h9 : _ ≤ 900 := HKe.out.le 900 (by  show l0.length ≤ 900; omega); omega) HId.out).mono ?_
                rintro e w7 ⟨s7, c7, n7, rfl, hby, hk⟩
                have HK7 : Hid (Mk W w7 m a s7 c7 n7 (l0 ++ Pq.two (x.id : Int))) := HKe.out.set hk hby
                have HB7 : Hid (RowT 5 w7 wr.heap.size [.int .u8 (bo.toNat : Int), .int .u8 0].toArray) := HB6.out.kept hk (fun k => Nat.lt_irrefl _ (HLT.out _ k))
                clear hby hk HKe hHeld
                try go_wp2_with fail
                refine hK'.out _ _ ⟨HK7.out.row, HK7.out.mem⟩ (fun hHeld => ?_)
                clear hK' K'
                have HS8 : Hid (Src Tryd.prog 1 40 (.slice (some ⟨wr.heap.size, 0, none⟩) 2 2) 2 [.int .u8 (bo.toNat : Int), .int .u8 0] w7) := Sg.src_row Tryd.underlying40 1 2 _ rfl (fun u hu => by simp at hu; rcases hu with rfl | rfl <;> rfl) HB7.out
                refine Hl.consL (i := 18) rfl (by kernel_rfl) (fun K' hK' => ?_)
                refine Sg.step_appendO elU8 rfl (.tmp 92) (.tmp 101) 40 rfl rfl rfl HK7.out.by_ HK7.out.bel.size HS8.out (by have := HL0.out; have h9 : _ ≤ 900 := HK7.out.le 900 (by rw [List.length_append]; show l0.length + 2 ≤ 900; omega); omega) ?_
                intro s9 c9 n9 w9 hn h1 hk
                have HK9 : Hid (Mk W w9 m a s9 c9 n9 ((l0 ++ Pq.two (x.id : Int)) ++ [bo, 0])) := HK7.out.app (r := [bo, 0]) h1 hk
                clear hn h1 hk HK7 HS8 hHeld
                refine hK'.out _ _ ⟨HK9.out.row, HK9.out.mem⟩ (fun hHeld => ?_)
                clear hK' K'
                refine Hl.takeL (i := 19) (d := 3) (v := ?_) rfl (by kernel_rfl) (by kernel_rfl) (by kernel_rfl) (fun _ _ _ h => h) (by rfl) ?_ (by assumption) ?_
                rotate_left
                · intro w hSw; have y9' := HY9.out _ hSw.1; obtain ⟨q0, q1, q2⟩ := HCx.out _ hSw.2; go_simp; (try with_reducible rfl)
                simp only [Act.put, List.setIfInBounds_toArray, List.set_cons_zero, List.set_cons_succ]
                refine wpAnyH_done (by kernel_rfl) ?_ _
                clear hHeld
                go_wp2_with fail
                go_roundw
                case rel =>
                  refine ⟨k + 1, s9, c9, n9, by omega, rfl, rfl, ?_⟩
                  show Mk _ _ _ _ _ _ _ _
                  rw [HXb]
                  exact HK9.out
                case measure => simp only [intOf]; omega
            · rw [hev] at c2
              have HXb := HX.out 1 (by rw [hev]; rfl)
              clear HX
              go_wp2_with fail
              refine wp_region_held_drew (S := fun w' => RowT 27 w' W.heap.size (mCs m a) ∧ MIn w' m a) (by kernel_rfl) ⟨(HK.out.on (Below.refl _ _).drew).row, (HK.out.on (Below.refl _ _).drew).mem⟩ (fun hHeld => ?_)
              have HKd : Hid (Mk W wr.drew m a s c n l0) := HK.out.on (Below.refl _ _).drew
              clear HK c2 y9
              refine Hl.takeL (i := 0) (d := 84) (v := ?_) rfl (by kernel_rfl) (by kernel_rfl) (by kernel_rfl) (fun _ _ _ h => h) (by rfl) ?_ (by assumption) ?_
              rotate_left
              · intro w hSw; have y9' := HY9.out _ hSw.1; obtain ⟨q0, q1, q2⟩ := HCx.out _ hSw.2; go_simp; (try with_reducible rfl)
              simp only [Act.put, List.setIfInBounds_toArray, List.set_cons_zero, List.set_cons_succ]
              refine Hl.takeL (i := 1) (d := 85) (v := ?_) rfl (by kernel_rfl) (by kernel_rfl) (by kernel_rfl) (fun _ _ _ h => h) (by rfl) ?_ (by assumption) ?_
              rotate_left
              · intro w hSw; have y9' := HY9.out _ hSw.1; obtain ⟨q0, q1, q2⟩ := HCx.out _ hSw.2; go_simp; (try with_reducible rfl)
              simp only [Act.put, List.setIfInBounds_toArray, List.set_cons_zero, List.set_cons_succ]
              refine Hl.takeL (i := 2) (d := 86) (v := ?_) rfl (by kernel_rfl) (by kernel_rfl) (by kernel_rfl) (fun _ _ _ h => h) (by rfl) ?_ (by assumption) ?_
              rotate_left
              · intro w hSw; have y9' := HY9.out _ hSw.1; obtain ⟨q0, q1, q2⟩ := HCx.out _ hSw.2; go_simp; (try with_reducible rfl)
              simp only [Act.put, List.setIfInBounds_toArray, List.set_cons_zero, List.set_cons_succ]
              refine Hl.takeL (i := 3) (d := 87) (v := ?_) rfl (by kernel_rfl) (by kernel_rfl) (by kernel_rfl) (fun _ _ _ h => h) (by rfl) ?_ (by assumption) ?_
              rotate_left
              · intro w hSw; have y9' := HY9.out _ hSw.1; obtain ⟨q0, q1, q2⟩ := HCx.out _ hSw.2; go_simp; (try with_reducible rfl)
              simp only [Act.put, List.setIfInBounds_toArray, List.set_cons_zero, List.set_cons_succ]
              refine Hl.takeL (i := 4) (d := 88) (v := ?_) rfl (by kernel_rfl) (by kernel_rfl) (by kernel_rfl) (fun _ _ _ h => h) (by rfl) ?_ (by assumption) ?_
              rotate_left
              · intro w hSw; have y9' := HY9.out _ hSw.1; obtain ⟨q0, q1, q2⟩ := HCx.out _ hSw.2; go_simp; (try with_reducible rfl)
              simp only [Act.put, List.setIfInBounds_toArray, List.set_cons_zero, List.set_cons_succ]
              refine Hl.takeL (i := 5) (d := 89) (v := ?_) rfl (by kernel_rfl) (by kernel_rfl) (by kernel_rfl) (fun _ _ _ h => h) (by rfl) ?_ (by assumption) ?_
              rotate_left
              · intro w hSw; have y9' := HY9.out _ hSw.1; obtain ⟨q0, q1, q2⟩ := HCx.out _ hSw.2; go_simp; (try with_reducible rfl)
              simp only [Act.put, List.setIfInBounds_toArray, List.set_cons_zero, List.set_cons_succ]
              refine Hl.takeL (i := 6) (d := 90) (v := ?_) rfl (by kernel_rfl) (by kernel_rfl) (by kernel_rfl) (fun _ _ _ h => h) (by rfl) ?_ (by assumption) ?_
              rotate_left
              · intro w hSw; have y9' := HY9.out _ hSw.1; obtain ⟨q0, q1, q2⟩ := HCx.out _ hSw.2; go_simp; (try with_reducible rfl)
              simp only [Act.put, List.setIfInBounds_toArray, List.set_cons_zero, List.set_cons_succ]
              refine Hl.takeL (i := 7) (d := 91) (v := ?_) rfl (by kernel_rfl) (by kernel_rfl) (by kernel_rfl) (fun _ _ _ h => h) (by rfl) ?_ (by assumption) ?_
              rotate_left
              · intro w hSw; have y9' := HY9.out _ hSw.1; obtain ⟨q0, q1, q2⟩ := HCx.out _ hSw.2; go_simp; (try with_reducible rfl)
              simp only [Act.put, List.setIfInBounds_toArray, List.set_cons_zero, List.set_cons_succ]
              refine Hl.takeL (i := 9) (d := 93) (v := ?_) rfl (by kernel_rfl) (by kernel_rfl) (by kernel_rfl) (fun _ _ _ h => h) (by rfl) ?_ (by assumption) ?_
              rotate_left
              · intro w hSw; have y9' := HY9.out _ hSw.1; obtain ⟨q0, q1, q2⟩ := HCx.out _ hSw.2; go_simp; (try with_reducible rfl)
              simp only [Act.put, List.setIfInBounds_toArray, List.set_cons_zero, List.set_cons_succ]
              refine Hl.takeL (i := 10) (d := 94) (v := ?_) rfl (by kernel_rfl) (by kernel_rfl) (by kernel_rfl) (fun _ _ _ h => h) (by rfl) ?_ (by assumption) ?_
              rotate_left
              · intro w hSw; have y9' := HY9.out _ hSw.1; obtain ⟨q0, q1, q2⟩ := HCx.out _ hSw.2; go_simp; (try with_reducible rfl)
              simp only [Act.put, List.setIfInBounds_toArray, List.set_cons_zero, List.set_cons_succ]
              refine Hl.takeL (i := 11) (d := 95) (v := ?_) rfl (by kernel_rfl) (by kernel_rfl) (by kernel_rfl) (fun _ _ _ h => h) (by rfl) ?_ (by assumption) ?_
              rotate_left
              · intro w hSw; have y9' := HY9.out _ hSw.1; obtain ⟨q0, q1, q2⟩ := HCx.out _ hSw.2; go_simp; (try with_reducible rfl)
              simp only [Act.put, List.setIfInBounds_toArray, List.set_cons_zero, List.set_cons_succ]
              refine Hl.takeL (i := 12) (d := 96) (v := ?_) rfl (by kernel_rfl) (by kernel_rfl) (by kernel_rfl) (fun _ _ _ h => h) (by rfl) ?_ (by assumption) ?_
              rotate_left
              · intro w hSw; have y9' := HY9.out _ hSw.1; obtain ⟨q0, q1, q2⟩ := HCx.out _ hSw.2; go_simp; (try with_reducible rfl)
              simp only [Act.put, List.setIfInBounds_toArray, List.set_cons_zero, List.set_cons_succ]
              refine Hl.takeL (i := 13) (d := 97) (v := ?_) rfl (by kernel_rfl) (by kernel_rfl) (by kernel_rfl) (fun _ _ _ h => h) (by rfl) ?_ (by assumption) ?_
              rotate_left
              · intro w hSw; have y9' := HY9.out _ hSw.1; obtain ⟨q0, q1, q2⟩ := HCx.out _ hSw.2; go_simp; (try with_reducible rfl)
              simp only [Act.put, List.setIfInBounds_toArray, List.set_cons_zero, List.set_cons_succ]
              refine Hl.takeL (i := 14) (d := 98) (v := ?_) rfl (by kernel_rfl) (by kernel_rfl) (by kernel_rfl) (fun _ _ _ h => h) (by rfl) ?_ (by assumption) ?_
              rotate_left
              · intro w hSw; have y9' := HY9.out _ hSw.1; obtain ⟨q0, q1, q2⟩ := HCx.out _ hSw.2; go_simp; (try with_reducible rfl)
              simp only [Act.put, List.setIfInBounds_toArray, List.set_cons_zero, List.set_cons_succ]
              refine Hl.takeL (i := 15) (d := 99) (v := ?_) rfl (by kernel_rfl) (by kernel_rfl) (by kernel_rfl) (fun _ _ _ h => h) (by rfl) ?_ (by assumption) ?_
              rotate_left
              · intro w hSw; have y9' := HY9.out _ hSw.1; obtain ⟨q0, q1, q2⟩ := HCx.out _ hSw.2; go_simp; (try with_reducible rfl)
              simp only [Act.put, List.setIfInBounds_toArray, List.set_cons_zero, List.set_cons_succ]
              refine Hl.takeL (i := 16) (d := 100) (v := ?_) rfl (by kernel_rfl) (by kernel_rfl) (by kernel_rfl) (fun _ _ _ h => h) (by rfl) ?_ (by assumption) ?_
              rotate_left
              · intro w hSw; have y9' := HY9.out _ hSw.1; obtain ⟨q0, q1, q2⟩ := HCx.out _ hSw.2; go_simp; (try with_reducible rfl)
              simp only [Act.put, List.setIfInBounds_toArray, List.set_cons_zero, List.set_cons_succ]
              refine Hl.consL2 (i := 8) (j := 17) rfl rfl (by kernel_rfl) (fun K' hK' => ?_) (fun K' hK' => ?_)
              · skip
                go_simp
                refine (HT.out _ _ _ _ l0 (x.id : Int) HKd.out.by_ HKd.out.bel.size (by have := HL0.out; have h9 : _ ≤ 900 := HKd.out.le 900 (by  show l0.length ≤ 900; omega); omega) HId.out).mono ?_
                rintro e w7 ⟨s7, c7, n7, rfl, hby, hk⟩
                have HK7 : Hid (Mk W w7 m a s7 c7 n7 (l0 ++ Pq.two (x.id : Int))) := HKd.out.set hk hby
                clear hby hk HKd hHeld
                try go_wp2_with fail
                refine hK'.out _ _ ⟨HK7.out.row, HK7.out.mem⟩ (fun hHeld => ?_)
                clear hK' K'
                refine Hl.consL (i := 17) rfl (by kernel_rfl) (fun K' hK' => ?_)
                have HS : Hid (Src Tryd.prog 1 40 (.slice (some ⟨w7.heap.size, 0, none⟩) 2 2) 2 [.int .u8 (bo.toNat : Int), .int .u8 1] (w7.alloc (.cells [.int .u8 (bo.toNat : Int), .int .u8 1].toArray 5))) := Sg.src_new Tryd.underlying40 w7 5 1 2 _ rfl (fun u hu => by simp at hu; rcases hu with rfl | rfl <;> rfl)
                have HK7a : Hid (Mk W (w7.alloc (.cells [.int .u8 (bo.toNat : Int), .int .u8 1].toArray 5)) m a s7 c7 n7 (l0 ++ Pq.two (x.id : Int))) := HK7.out.al _
                clear HK7 hHeld
                go_simp
                refine hK'.out _ _ ⟨HK7a.out.row, HK7a.out.mem⟩ (fun hHeld => ?_)
                clear hK' K'
                refine Hl.consL (i := 18) rfl (by kernel_rfl) (fun K' hK' => ?_)
                refine Sg.step_appendO elU8 rfl (.tmp 92) (.tmp 101) 40 rfl rfl rfl HK7a.out.by_ HK7a.out.bel.size HS.out (by have := HL0.out; have h9 : _ ≤ 900 := HK7a.out.le 900 (by rw [List.length_append]; show l0.length + 2 ≤ 900; omega); omega) ?_
                intro s9 c9 n9 w9 hn h1 hk
                have HK9 : Hid (Mk W w9 m a s9 c9 n9 ((l0 ++ Pq.two (x.id : Int)) ++ [bo, 1])) := HK7a.out.app (r := [bo, 1]) h1 hk
                clear hn h1 hk HK7a HS hHeld
                refine hK'.out _ _ ⟨HK9.out.row, HK9.out.mem⟩ (fun hHeld => ?_)
                clear hK' K'
                refine Hl.takeL (i := 19) (d := 3) (v := ?_) rfl (by kernel_rfl) (by kernel_rfl) (by kernel_rfl) (fun _ _ _ h => h) (by rfl) ?_ (by assumption) ?_
                rotate_left
                · intro w hSw; have y9' := HY9.out _ hSw.1; obtain ⟨q0, q1, q2⟩ := HCx.out _ hSw.2; go_simp; (try with_reducible rfl)
                simp only [Act.put, List.setIfInBounds_toArray, List.set_cons_zero, List.set_cons_succ]
                refine wpAnyH_done (by kernel_rfl) ?_ _
                clear hHeld
                go_wp2_with fail
                go_roundw
                case rel =>
                  refine ⟨k + 1, s9, c9, n9, by omega, rfl, rfl, ?_⟩
                  show Mk _ _ _ _ _ _ _ _
                  rw [HXb]
                  exact HK9.out
                case measure => simp only [intOf]; omega
              · skip
                have HB6 : Hid (RowT 5 (wr.drew.alloc (.cells [.int .u8 (bo.toNat : Int), .int .u8 1].toArray 5)) wr.heap.size [.int .u8 (bo.toNat : Int), .int .u8 1].toArray) := RowT.new _ wr.drew _
                have HKe : Hid (Mk W (wr.drew.alloc (.cells [.int .u8 (bo.toNat : Int), .int .u8 1].toArray 5)) m a s c n l0) := HKd.out.al _
                clear HKd hHeld
                go_simp
                refine hK'.out _ _ ⟨HKe.out.row, HKe.out.mem⟩ (fun hHeld => ?_)
                clear hK' K'
                refine Hl.consL (i := 8) rfl (by kernel_rfl) (fun K' hK' => ?_)
                go_simp
                refine (HT.out _ _ _ _ l0 (x.id : Int) HKe.out.by_ HKe.out.bel.size (by have := HL0.out; have h9 : _ ≤ 900 := HKe.out.le 900 (by  show l0.length ≤ 900; omega); omega) HId.out).mono ?_
                rintro e w7 ⟨s7, c7, n7, rfl, hby, hk⟩
                have HK7 : Hid (Mk W w7 m a s7 c7 n7 (l0 ++ Pq.two (x.id : Int))) := HKe.out.set hk hby
                have HB7 : Hid (RowT 5 w7 wr.heap.size [.int .u8 (bo.toNat : Int), .int .u8 1].toArray) := HB6.out.kept hk (fun k => Nat.lt_irrefl _ (HLT.out _ k))
                clear hby hk HKe hHeld
                try go_wp2_with fail
                refine hK'.out _ _ ⟨HK7.out.row, HK7.out.mem⟩ (fun hHeld => ?_)
                clear hK' K'
                have HS8 : Hid (Src Tryd.prog 1 40 (.slice (some ⟨wr.heap.size, 0, none⟩) 2 2) 2 [.int .u8 (bo.toNat : Int), .int .u8 1] w7) := Sg.src_row Tryd.underlying40 1 2 _ rfl (fun u hu => by simp at hu; rcases hu with rfl | rfl <;> rfl) HB7.out
                refine Hl.consL (i := 18) rfl (by kernel_rfl) (fun K' hK' => ?_)
                refine Sg.step_appendO elU8 rfl (.tmp 92) (.tmp 101) 40 rfl rfl rfl HK7.out.by_ HK7.out.bel.size HS8.out (by have := HL0.out; have h9 : _ ≤ 900 := HK7.out.le 900 (by rw [List.length_append]; show l0.length + 2 ≤ 900; omega); omega) ?_
                intro s9 c9 n9 w9 hn h1 hk
                have HK9 : Hid (Mk W w9 m a s9 c9 n9 ((l0 ++ Pq.two (x.id : Int)) ++ [bo, 1])) := HK7.out.app (r := [bo, 1]) h1 hk
                clear hn h1 hk HK7 HS8 hHeld
                refine hK'.out _ _ ⟨HK9.out.row, HK9.out.mem⟩ (fun hHeld => ?_)
                clear hK' K'
                refine Hl.takeL (i := 19) (d := 3) (v := ?_) rfl (by kernel_rfl) (by kernel_rfl) (by kernel_rfl) (fun _ _ _ h => h) (by rfl) ?_ (by assumption) ?_
                rotate_left
                · intro w hSw; have y9' := HY9.out _ hSw.1; obtain ⟨q0, q1, q2⟩ := HCx.out _ hSw.2; go_simp; (try with_reducible rfl)
                simp only [Act.put, List.setIfInBounds_toArray, List.set_cons_zero, List.set_cons_succ]
                refine wpAnyH_done (by kernel_rfl) ?_ _
                clear hHeld
                go_wp2_with fail
                go_roundw
                case rel =>
                  refine ⟨k + 1, s9, c9, n9, by omega, rfl, rfl, ?_⟩
                  show Mk _ _ _ _ _ _ _ _
                  rw [HXb]
                  exact HK9.out
                case measure => simp only [intOf]; omega
          · obtain rfl : k = m.messages.length := by omega
            have kn : ¬ ((m.messages.length : Int) < (m.messages.length : Int)) := by omega
            rw [List.take_length] at HK
            obtain ⟨l11, hl11⟩ : ∃ l, l9 ++ [b10] ++ m.messages.flatMap Pq.mes = l := ⟨_, rfl⟩
            rw [hl11] at HK
            have HL11 : Hid (l11.length ≤ 66) := by show l11.length ≤ 66; rw [← hl11, List.length_append, List.length_append, Pq.flat_len Pq.mes 4 Pq.mes_len]; have := HL9.out; have := HL.out; simp; omega
            have HF11 : Hid (l9 ++ [b10] ++ m.messages.flatMap Pq.mes = l11) := hl11
            have y10 := (HY.out _ HK.out.row).2.2.2.2.2.2.2.2.2.2
            obtain ⟨b12, hb12⟩ : ∃ b12, Pq.u8 (m.windows.length : Int) = b12 := ⟨_, rfl⟩
            have e12 : IntKind.u8.wrap (m.windows.length : Int) = (b12.toNat : Int) := by rw [← hb12, Pq.u8_mod, IntKind.wrap_u8]
            have HF12 : Hid (Pq.u8 (m.windows.length : Int) = b12) := hb12
            have HLe : Hid (n ≤ 900) := HK.out.le 900 (by have := HL11.out; omega)
            have HS : Hid (Src Tryd.prog 1 40 (.slice (some ⟨wr.heap.size, 0, none⟩) 1 1) 1 [.int .u8 (b12.toNat : Int)] (wr.alloc (.cells [.int .u8 (b12.toNat : Int)].toArray 5))) := Sg.src_new Tryd.underlying40 wr 5 1 1 _ rfl (fun u hu => by simp at hu; subst hu; rfl)
            have HKa : Hid (Mk W (wr.alloc (.cells [.int .u8 (b12.toNat : Int)].toArray 5)) m a s c n l11) := HK.out.al _
            clear hl11 hb12 HK HL HL9
            go_wp2_with (refine Sg.wpList_appendO elU8 rfl (.tmp 103) (.tmp 108) 40 rfl rfl rfl HKa.out.by_ HKa.out.bel.size HS.out (by have := HLe.out; omega) ?_; intro s' c' n' w' hn h1 hk1; have HKb : Hid (Mk W w' m a s' c' n' (l11 ++ [b12])) := HKa.out.app (r := [b12]) h1 hk1; clear hn h1 hk1)
            clear HKa HS e12 y9 y10
            go_loopw [3, 7] (fun vb vi wr => ∃ (k : Nat) (s : Option Addr) (c n : Nat), k ≤ m.windows.length ∧ vi = .int .i64 (k : Int) ∧ vb = .slice s n c ∧ Hid (Mk W wr m a s c n (l11 ++ [b12] ++ (m.windows.take k).flatMap Pq.win))) (fun vb vi _ => m.windows.length - (intOf vi).toNat)
            case atStart =>
              refine ⟨0, s', c', n', Nat.zero_le _, rfl, rfl, ?_⟩
              rw [List.take_zero, List.flatMap_nil, List.append_nil]
              exact HKb
            case round =>
              clear HKb
              obtain ⟨k, s, c, n, hk, rfl, rfl, HK⟩ := hrel
              have HL : Hid (m.windows.length ≤ 16) := HN.out.l3
              have y10 := (HY.out _ HK.out.row).2.2.2.2.2.2.2.2.2.2
              by_cases hkl : k < m.windows.length
              · obtain ⟨x, hx⟩ : ∃ x, m.windows[k]? = some x := ⟨_, List.getElem?_eq_getElem hkl⟩
                obtain ⟨g, o, hs, _, c0, c1, c2, c3, c4, c5⟩ := HK.out.mem.window hx
                rw [hs] at y10
                obtain ⟨⟨x1, x2⟩, hx3, hx4, ⟨x5, x6⟩, ⟨x7, x8⟩, ⟨x9, x10⟩⟩ := HN.out.windows x (List.mem_of_getElem? hx)
                have H3 : Hid (0 ≤ x.start ∧ x.start < 65536) := hx3
                have H4 : Hid (0 ≤ x.fin ∧ x.fin < 65536) := hx4
                clear x1 x2 hx3 hx4 x5 x6 x7 x8 x9 x10
                obtain ⟨bk, hbk⟩ : ∃ b, Pq.u8 x.kind = b := ⟨_, rfl⟩
                obtain ⟨bc, hbc⟩ : ∃ b, Pq.u8 x.cycle = b := ⟨_, rfl⟩
                obtain ⟨br, hbr⟩ : ∃ b, Pq.u8 x.rep = b := ⟨_, rfl⟩
                obtain ⟨bm, hbm⟩ : ∃ b, Pq.u8 x.msg = b := ⟨_, rfl⟩
                have ek : IntKind.u8.wrap x.kind = (bk.toNat : Int) := by rw [← hbk, Pq.u8_mod, IntKind.wrap_u8]
                have ec : IntKind.u8.wrap x.cycle = (bc.toNat : Int) := by rw [← hbc, Pq.u8_mod, IntKind.wrap_u8]
                have er : IntKind.u8.wrap x.rep = (br.toNat : Int) := by rw [← hbr, Pq.u8_mod, IntKind.wrap_u8]
                have em : IntKind.u8.wrap x.msg = (bm.toNat : Int) := by rw [← hbm, Pq.u8_mod, IntKind.wrap_u8]
                have ki : (k : Int) < (m.windows.length : Int) := by omega
                have kb : (k : Int) < 1000 := by have := HL.out; omega
                obtain ⟨l0, hl0⟩ : ∃ l, l11 ++ [b12] ++ (m.windows.take k).flatMap Pq.win = l := ⟨_, rfl⟩
                rw [hl0] at HK
                have HL0 : Hid (l0.length ≤ 300) := by show l0.length ≤ 300; rw [← hl0, List.length_append, List.length_append, Pq.flat_len Pq.win 8 Pq.win_len, List.length_take]; have := HL11.out; have := HL.out; simp; omega
                have HXb : Hid (l11 ++ [b12] ++ (m.windows.take (k + 1)).flatMap Pq.win = l0 ++ [bk] ++ Pq.two x.start ++ Pq.two x.fin ++ [bc, br, bm]) := by
                  show _ = _
                  rw [List.take_add_one, hx, List.flatMap_append, ← hl0, ← hbk, ← hbc, ← hbr, ← hbm]
                  simp [Pq.win]
                have HWc : Hid (∀ w' p, RowT 52 w' p (mC3 x).toArray → w'.cell? ⟨p, 0, none⟩ = some (.int .i64 x.kind) ∧ w'.cell? ⟨p, 1, none⟩ = some (.int .i64 x.start) ∧ w'.cell? ⟨p, 2, none⟩ = some (.int .i64 x.fin) ∧ w'.cell? ⟨p, 3, none⟩ = some (.int .i64 x.cycle) ∧ w'.cell? ⟨p, 4, none⟩ = some (.int .i64 x.rep) ∧ w'.cell? ⟨p, 5, none⟩ = some (.int .i64 x.msg)) := fun w' p h => ⟨h.c 0 _ rfl, h.c 1 _ rfl, h.c 2 _ rfl, h.c 3 _ rfl, h.c 4 _ rfl, h.c 5 _ rfl⟩
                have HKw : Hid (MkW W (wr.alloc (.cells #[.int .i64 x.kind, .int .i64 x.start, .int .i64 x.fin, .int .i64 x.cycle, .int .i64 x.rep, .int .i64 x.msg] 52)) m a wr.heap.size x s c n l0) := ⟨HK.out.al _, RowT.new _ wr _⟩
                clear hx hs hbk hbc hbr hbm hl0 HK
                go_wp2_with fail
                generalize wr.alloc (.cells #[.int .i64 x.kind, .int .i64 x.start, .int .i64 x.fin, .int .i64 x.cycle, .int .i64 x.rep, .int .i64 x.msg] 52) = w6 at HKw ⊢
                refine wp_region_held_drew (S := fun w' => RowT 52 w' wr.heap.size (mC3 x).toArray) (by kernel_rfl) (HKw.out.on (Below.refl _ _).drew).win (fun hHeld => ?_)
                have HK4 : Hid (MkW W w6.drew m a wr.heap.size x s c n l0) := HKw.out.on (Below.refl _ _).drew
                clear HKw c0 c1 c2 c3 c4 c5 y10
                refine Hl.takeL (i := 0) (d := 122) (v := ?_) rfl (by kernel_rfl) (by kernel_rfl) (by kernel_rfl) (fun _ _ _ h => h) (by rfl) ?_ (by assumption) ?_
                rotate_left
                · intro w hSw; obtain ⟨q0, q1, q2, q3, q4, q5⟩ := HWc.out _ _ hSw; go_simp; (try with_reducible rfl)
                simp only [Act.put, List.setIfInBounds_toArray, List.set_cons_zero, List.set_cons_succ]
                refine Hl.takeL (i := 1) (d := 123) (v := ?_) rfl (by kernel_rfl) (by kernel_rfl) (by kernel_rfl) (fun _ _ _ h => h) (by rfl) ?_ (by assumption) ?_
                rotate_left
                · intro w hSw; obtain ⟨q0, q1, q2, q3, q4, q5⟩ := HWc.out _ _ hSw; go_simp; (try with_reducible rfl)
                simp only [Act.put, List.setIfInBounds_toArray, List.set_cons_zero, List.set_cons_succ]
                refine Hl.takeL (i := 2) (d := 124) (v := ?_) rfl (by kernel_rfl) (by kernel_rfl) (by kernel_rfl) (fun _ _ _ h => h) (by rfl) ?_ (by assumption) ?_
                rotate_left
                · intro w hSw; obtain ⟨q0, q1, q2, q3, q4, q5⟩ := HWc.out _ _ hSw; go_simp; (try with_reducible rfl)
                simp only [Act.put, List.setIfInBounds_toArray, List.set_cons_zero, List.set_cons_succ]
                refine Hl.takeL (i := 3) (d := 125) (v := ?_) rfl (by kernel_rfl) (by kernel_rfl) (by kernel_rfl) (fun _ _ _ h => h) (by rfl) ?_ (by assumption) ?_
                rotate_left
                · intro w hSw; obtain ⟨q0, q1, q2, q3, q4, q5⟩ := HWc.out _ _ hSw; go_simp; (try with_reducible rfl)
                simp only [Act.put, List.setIfInBounds_toArray, List.set_cons_zero, List.set_cons_succ]
                refine Hl.takeL (i := 6) (d := 128) (v := ?_) rfl (by kernel_rfl) (by kernel_rfl) (by kernel_rfl) (fun _ _ _ h => h) (by rfl) ?_ (by assumption) ?_
                rotate_left
                · intro w hSw; obtain ⟨q0, q1, q2, q3, q4, q5⟩ := HWc.out _ _ hSw; go_simp; (try with_reducible rfl)
                simp only [Act.put, List.setIfInBounds_toArray, List.set_cons_zero, List.set_cons_succ]
                refine Hl.takeL (i := 7) (d := 129) (v := ?_) rfl (by kernel_rfl) (by kernel_rfl) (by kernel_rfl) (fun _ _ _ h => h) (by rfl) ?_ (by assumption) ?_
                rotate_left
                · intro w hSw; obtain ⟨q0, q1, q2, q3, q4, q5⟩ := HWc.out _ _ hSw; go_simp; (try with_reducible rfl)
                simp only [Act.put, List.setIfInBounds_toArray, List.set_cons_zero, List.set_cons_succ]
                refine Hl.takeL (i := 9) (d := 131) (v := ?_) rfl (by kernel_rfl) (by kernel_rfl) (by kernel_rfl) (fun _ _ _ h => h) (by rfl) ?_ (by assumption) ?_
                rotate_left
                · intro w hSw; obtain ⟨q0, q1, q2, q3, q4, q5⟩ := HWc.out _ _ hSw; go_simp; (try with_reducible rfl)
                simp only [Act.put, List.setIfInBounds_toArray, List.set_cons_zero, List.set_cons_succ]
                refine Hl.takeL (i := 10) (d := 132) (v := ?_) rfl (by kernel_rfl) (by kernel_rfl) (by kernel_rfl) (fun _ _ _ h => h) (by rfl) ?_ (by assumption) ?_
                rotate_left
                · intro w hSw; obtain ⟨q0, q1, q2, q3, q4, q5⟩ := HWc.out _ _ hSw; go_simp; (try with_reducible rfl)
                simp only [Act.put, List.setIfInBounds_toArray, List.set_cons_zero, List.set_cons_succ]
                refine Hl.consL (i := 4) rfl (by kernel_rfl) (fun K' hK' => ?_)
                have HS4 : Hid (Src Tryd.prog 1 40 (.slice (some ⟨w6.drew.heap.size, 0, none⟩) 1 1) 1 [.int .u8 (bk.toNat : Int)] (w6.drew.alloc (.cells [.int .u8 (bk.toNat : Int)].toArray 5))) := Sg.src_new Tryd.underlying40 w6.drew 5 1 1 _ rfl (fun u hu => by simp at hu; subst hu; rfl)
                have HK4a : Hid (MkW W (w6.drew.alloc (.cells [.int .u8 (bk.toNat : Int)].toArray 5)) m a wr.heap.size x s c n l0) := HK4.out.al _
                clear HK4 hHeld
                go_simp
                refine hK'.out _ _ HK4a.out.win (fun hHeld => ?_)
                clear hK' K'
                refine Hl.consL (i := 5) rfl (by kernel_rfl) (fun K' hK' => ?_)
                refine Sg.step_appendO elU8 rfl (.tmp 122) (.tmp 126) 40 rfl rfl rfl HK4a.out.by_ HK4a.out.bel.size HS4.out (by have := HL0.out; have h9 : _ ≤ 900 := HK4a.out.le 900 (by  show l0.length ≤ 900; omega); omega) ?_
                intro s4 c4 n4 w4 hn h1 hk
                have HK4b : Hid (MkW W w4 m a wr.heap.size x s4 c4 n4 (l0 ++ [bk])) := HK4a.out.app (r := [bk]) h1 hk
                clear hn h1 hk HK4a HS4 hHeld
                refine hK'.out _ _ HK4b.out.win (fun hHeld => ?_)
                clear hK' K'
                refine Hl.consL (i := 8) rfl (by kernel_rfl) (fun K' hK' => ?_)
                go_simp
                refine (HT.out _ _ _ _ ((l0 ++ [bk])) x.start HK4b.out.by_ HK4b.out.bel.size (by have := HL0.out; have h9 : _ ≤ 900 := HK4b.out.le 900 (by  rw [List.length_append]; show l0.length + 1 ≤ 900; omega); omega) H3.out).mono ?_
                rintro e w5 ⟨s5, c5, n5, rfl, hby, hk⟩
                have HK5 : Hid (MkW W w5 m a wr.heap.size x s5 c5 n5 ((l0 ++ [bk]) ++ Pq.two x.start)) := HK4b.out.set hk hby
                clear hby hk HK4b hHeld
                try go_wp2_with fail
                refine hK'.out _ _ HK5.out.win (fun hHeld => ?_)
                clear hK' K'
                refine Hl.consL (i := 11) rfl (by kernel_rfl) (fun K' hK' => ?_)
                go_simp
                refine (HT.out _ _ _ _ ((l0 ++ [bk] ++ Pq.two x.start)) x.fin HK5.out.by_ HK5.out.bel.size (by have := HL0.out; have h9 : _ ≤ 900 := HK5.out.le 900 (by  rw [List.length_append]; rw [List.length_append]; show l0.length + 1 + 2 ≤ 900; omega); omega) H4.out).mono ?_
                rintro e w7 ⟨s7, c7, n7, rfl, hby, hk⟩
                have HK6 : Hid (MkW W w7 m a wr.heap.size x s7 c7 n7 ((l0 ++ [bk] ++ Pq.two x.start) ++ Pq.two x.fin)) := HK5.out.set hk hby
                clear hby hk HK5 hHeld
                try go_wp2_with fail
                refine hK'.out _ _ HK6.out.win (fun hHeld => ?_)
                clear hK' K'
                refine Hl.takeL (i := 12) (d := 3) (v := ?_) rfl (by kernel_rfl) (by kernel_rfl) (by kernel_rfl) (fun _ _ _ h => h) (by rfl) ?_ (by assumption) ?_
                rotate_left
                · intro w hSw; obtain ⟨q0, q1, q2, q3, q4, q5⟩ := HWc.out _ _ hSw; go_simp; (try with_reducible rfl)
                simp only [Act.put, List.setIfInBounds_toArray, List.set_cons_zero, List.set_cons_succ]
                refine wpAnyH_done (by kernel_rfl) ?_ _
                clear hHeld
                obtain ⟨l7, hl7⟩ : ∃ l, l0 ++ [bk] ++ Pq.two x.start ++ Pq.two x.fin = l := ⟨_, rfl⟩
                rw [hl7] at HK6
                have HLe : Hid (n7 ≤ 900) := HK6.out.le 900 (by rw [← hl7, List.length_append, List.length_append, List.length_append]; show l0.length + 1 + 2 + 2 ≤ 900; have := HL0.out; omega)
                rw [hl7] at HXb
                obtain ⟨q0, q1, q2, q3, q4, q5⟩ := HWc.out _ _ HK6.out.win
                have HS : Hid (Src Tryd.prog 1 40 (.slice (some ⟨w7.heap.size, 0, none⟩) 3 3) 3 [.int .u8 (bc.toNat : Int), .int .u8 (br.toNat : Int), .int .u8 (bm.toNat : Int)] (w7.alloc (.cells [.int .u8 (bc.toNat : Int), .int .u8 (br.toNat : Int), .int .u8 (bm.toNat : Int)].toArray 5))) := Sg.src_new Tryd.underlying40 w7 5 1 3 _ rfl (fun u hu => by simp at hu; rcases hu with rfl | rfl | rfl <;> rfl)
                have HKa : Hid (Mk W (w7.alloc (.cells [.int .u8 (bc.toNat : Int), .int .u8 (br.toNat : Int), .int .u8 (bm.toNat : Int)].toArray 5)) m a s7 c7 n7 l7) := HK6.out.m0.al _
                clear hl7 HK6
                go_wp2_with (refine Sg.wpList_appendO elU8 rfl (.tmp 134) (.tmp 144) 40 rfl rfl rfl HKa.out.by_ HKa.out.bel.size HS.out (by have := HLe.out; omega) ?_; intro s' c' n' w' hn h1 hk1; have HKb : Hid (Mk W w' m a s' c' n' (l7 ++ [bc, br, bm])) := HKa.out.app (r := [bc, br, bm]) h1 hk1; clear hn h1 hk1)
                go_roundw
                case rel =>
                  refine ⟨k + 1, s', c', n', by omega, rfl, rfl, ?_⟩
                  show Mk _ _ _ _ _ _ _ _
                  rw [HXb.out]
                  exact HKb.out
                case measure => simp only [intOf]; omega
              · obtain rfl : k = m.windows.length := by omega
                have kn : ¬ ((m.windows.length : Int) < (m.windows.length : Int)) := by omega
                rw [List.take_length] at HK
                have hcv := HK.out.by_.conv
                have HB : Hid (Below W.heap.size W wr) := HK.out.bel
                have HE : Hid (l11 ++ [b12] ++ m.windows.flatMap Pq.win = Pq.laid m) := by
                  show _ = _
                  obtain ⟨h3, k1, k2, k3, k4, k5⟩ := HF3.out
                  rw [← HF12.out, ← HF11.out, ← HF10.out, ← HF9.out, ← HF8.out, ← HF6.out, ← HF5.out, ← h3, ← k1, ← k2, ← k3, ← k4, ← k5]
                  simp [Pq.laid, Pq.front]
                rw [HE.out] at hcv
                clear HK HE
                go_wp2
                go_ret
                exact ⟨rfl, HB.out⟩
end Go.Proofs.YtcdalfhmmipiaaaDoor
