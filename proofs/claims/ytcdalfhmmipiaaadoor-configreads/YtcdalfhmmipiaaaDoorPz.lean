/- Package config, over the landed code: Parse; all that is said of it. -/
import Derived.Test.YtcdalfhmmipiaaaDoorP6
import Derived.Test.YtcdalfhmmipiaaaDoorP9
import Derived.Test.YtcdalfhmmipiaaaDoorPh
namespace Go.Proofs.YtcdalfhmmipiaaaDoor
open Go.RowKit Go.WideShapes
set_option linter.unusedVariables false
/-- The result in its block. -/
structure Pz0 (W v : World) : Prop where
  bel : Below W.heap.size W v
  rz : RowT 27 v W.heap.size (mCs Mx.nil0 Ma.nil0)
theorem Pz0.res {W v : World} (h : Pz0 W v) (cs : Array Value) : RowT 27 (v.setRow W.heap.size cs) W.heap.size cs ∧ Below W.heap.size W (v.setRow W.heap.size cs) ∧ Kept (fun j => j = W.heap.size) v (v.setRow W.heap.size cs) := by
  have hk : Kept (fun j => j = W.heap.size) v (v.setRow W.heap.size cs) := ⟨rfl, rfl, rfl, by simp [World.setRow], fun k _ hk => setRow_other v W.heap.size k _ (fun e => hk (by omega))⟩
  exact ⟨setRow_heap _ _ _ _ _ _ h.rz, h.bel.trans (hk.below (fun g hg => by rw [hg]; exact Nat.le_refl _) h.bel.size), hk⟩
/-- Besides: the reader behind all, what it has read. -/
structure Pz1 (W v : World) (pm : Nat) (r : Pq.R) (m : Mx.M) (a : Ma) : Prop where
  z : Pz0 W v
  rr : RowT 55 v (W.heap.size + 1) (rC r)
  rm : RowT 27 v pm (mCs m a)
  ow : Ow3 W.heap.size v m a
theorem Pz1.on {W v v' : World} {pm : Nat} {r : Pq.R} {m : Mx.M} {a : Ma} (h : Pz1 W v pm r m a) (hb : Below v.heap.size v v') : Pz1 W v' pm r m a := ⟨⟨h.z.bel.trans (hb.mono h.z.bel.size), h.z.rz.on hb⟩, h.rr.on hb, h.rm.on hb, h.ow.on hb⟩
theorem Pz1.kept {W v v' : World} {pm : Nat} {r : Pq.R} {m : Mx.M} {a : Ma} (h : Pz1 W v pm r m a) (hk : Kept (fun j => j = W.heap.size) v v') : MIn v' m a := by
  have hz := h.z.rz
  exact (⟨h.ow.o1.kept hk (fun j hj e => by subst e; exact h.ow.o1.ne hz (by decide) hj), h.ow.o2.kept hk (fun j hj e => by subst e; exact h.ow.o2.ne hz (by decide) hj), h.ow.o3.kept hk (fun j hj e => by subst e; exact h.ow.o3.ne hz (by decide) hj)⟩ : Ow3 W.heap.size v' m a).mem
theorem fin_bad {b : List UInt8} {m : Mx.M} {r : Pq.R} (h : Fin4 ⟨b, false⟩ m r) (hb : r.bad = true) : ∀ n, ¬ Pq.Of b n := by
  have : (Pq.lM ⟨b, false⟩).2.bad = true := by
    rcases h with h | h
    · exact h.2
    · rw [h]; exact hb
  exact (Pq.lM_end (m := (Pq.lM ⟨b, false⟩).1) (r := (Pq.lM ⟨b, false⟩).2) rfl).1 this
theorem fin_good {b : List UInt8} {m : Mx.M} {r : Pq.R} (h : Fin4 ⟨b, false⟩ m r) (hb : r.bad = false) : Pq.lM ⟨b, false⟩ = (m, r) := by
  rcases h with h | h
  · rw [h.1] at hb; cases hb
  · exact h
set_option maxRecDepth 100000 in
set_option maxHeartbeats 4000000 in
theorem ck_parse (W : World) (hT : Tab W) (b : List UInt8) (hl : b.length ≤ 1000) : Calls Tryd.prog 12 #[.string ⟨b.toArray⟩] W fun e w' => Told b e w' ∧ Below W.heap.size W w' := by
  have hsz : (⟨b.toArray⟩ : ByteArray).size = b.length := by show b.toArray.size = _; simp
  have HQ : Hid (∀ w, Below W.heap.size W w → Tab w) := fun w hb => hT.below hb
  have hal : Below W.heap.size W (W.alloc (.cells #[.int .i64 0, .int .i64 0, .int .i64 0, .int .i64 0, .int .i64 0, .int .i64 0, .int .i64 0, .int .u32 0, .slice none 0 0, .slice none 0 0, .slice none 0 0] 27)) := (Below.refl _ _).alloc (Nat.le_refl _) _
  have HZ0 : Hid (Pz0 W (W.alloc (.cells #[.int .i64 0, .int .i64 0, .int .i64 0, .int .i64 0, .int .i64 0, .int .i64 0, .int .i64 0, .int .u32 0, .slice none 0 0, .slice none 0 0, .slice none 0 0] 27))) := ⟨hal, RowT.new _ _ _⟩
  clear hT
  by_cases h1 : 400 < b.length
  · have HT : Hid (∀ m, ¬ Pq.Of b m) := fun m h => by have := (of_front h).2.1; omega
    have h1i : (400 : Int) < (b.length : Int) := by omega
    go_enter Tryd.func12, Tryd.ntmps12
    go_upto_region 2 with fail
    generalize W.alloc (.cells #[.int .i64 0, .int .i64 0, .int .i64 0, .int .i64 0, .int .i64 0, .int .i64 0, .int .i64 0, .int .u32 0, .slice none 0 0, .slice none 0 0, .slice none 0 0] 27) = v0 at HZ0 hal ⊢
    go_wp2_with (refine wpList_store_row (P := Tryd.prog) rfl 27 (.tmp 2) (.tmp 9) rfl W.heap.size (mCs Mx.nil0 Ma.nil0) rfl rfl 27 _ HZ0.out.rz minfo13 rfl (mcs_one _ _) ?_)
    obtain ⟨hz, hbl, hkk⟩ := HZ0.out.res (mCs Mx.nil0 Ma.nil0)
    have HTd : Hid (Told b (.returned (.tuple #[mV Mx.nil0 Ma.nil0, .int .i64 130])) (v0.setRow W.heap.size (mCs Mx.nil0 Ma.nil0))) := Or.inr ⟨HT.out, Ma.nil0, rfl, min_nil _⟩
    generalize v0.setRow W.heap.size (mCs Mx.nil0 Ma.nil0) = wz at *
    have z0 := hz.c 0 _ rfl
    have z1 := hz.c 1 _ rfl
    have z2 := hz.c 2 _ rfl
    have z3 := hz.c 3 _ rfl
    have z4 := hz.c 4 _ rfl
    have z5 := hz.c 5 _ rfl
    have z6 := hz.c 6 _ rfl
    have z7 := hz.c 7 _ rfl
    have z8 := hz.c 8 _ rfl
    have z9 := hz.c 9 _ rfl
    have z10 := hz.c 10 _ rfl
    exact bodyPost_ret (v := .tuple #[mV Mx.nil0 Ma.nil0, .int .i64 130]) (by simp [results, Tryd.results12, go_sem, mCs, Mx.nil0, Ma.nil0, z0, z1, z2, z3, z4, z5, z6, z7, z8, z9, z10]) rfl ⟨HTd.out, hbl⟩
  have h1i : ¬ ((400 : Int) < (b.length : Int)) := by omega
  obtain ⟨r0, hr0⟩ : ∃ z : Pq.R, z = ⟨b, false⟩ := ⟨_, rfl⟩
  have HA : Hid (∀ (w : World) (q : Nat), RowT 55 w q (rC ⟨b, false⟩) → Calls Tryd.prog 24 #[Ob.ptr q] w fun e w' => ∃ m a r, e = .returned (mV m a) ∧ Fin4 ⟨b, false⟩ m r ∧ RowT 55 w' q (rC r) ∧ Ow3 w.heap.size w' m a ∧ Mx.Small m ∧ Kept (fun j => j = q) w w') := fun w q h => rd_all w q ⟨b, false⟩ h hl
  have HR : Hid (RowT 55 ((W.alloc (.cells #[.int .i64 0, .int .i64 0, .int .i64 0, .int .i64 0, .int .i64 0, .int .i64 0, .int .i64 0, .int .u32 0, .slice none 0 0, .slice none 0 0, .slice none 0 0] 27)).alloc (.cells #[.string ⟨b.toArray⟩, .bool false] 55)) (W.heap.size + 1) #[.string ⟨b.toArray⟩, .bool false]) := by
    have := RowT.new 55 (W.alloc (.cells #[.int .i64 0, .int .i64 0, .int .i64 0, .int .i64 0, .int .i64 0, .int .i64 0, .int .i64 0, .int .u32 0, .slice none 0 0, .slice none 0 0, .slice none 0 0] 27)) #[.string ⟨b.toArray⟩, .bool false]
    have e : (W.alloc (.cells #[.int .i64 0, .int .i64 0, .int .i64 0, .int .i64 0, .int .i64 0, .int .i64 0, .int .i64 0, .int .u32 0, .slice none 0 0, .slice none 0 0, .slice none 0 0] 27)).heap.size = W.heap.size + 1 := by simp
    rwa [e] at this
  have HZ1 : Hid (Pz0 W ((W.alloc (.cells #[.int .i64 0, .int .i64 0, .int .i64 0, .int .i64 0, .int .i64 0, .int .i64 0, .int .i64 0, .int .u32 0, .slice none 0 0, .slice none 0 0, .slice none 0 0] 27)).alloc (.cells #[.string ⟨b.toArray⟩, .bool false] 55))) := by
    have h2 : Below (W.alloc (.cells #[.int .i64 0, .int .i64 0, .int .i64 0, .int .i64 0, .int .i64 0, .int .i64 0, .int .i64 0, .int .u32 0, .slice none 0 0, .slice none 0 0, .slice none 0 0] 27)).heap.size (W.alloc (.cells #[.int .i64 0, .int .i64 0, .int .i64 0, .int .i64 0, .int .i64 0, .int .i64 0, .int .i64 0, .int .u32 0, .slice none 0 0, .slice none 0 0, .slice none 0 0] 27)) ((W.alloc (.cells #[.int .i64 0, .int .i64 0, .int .i64 0, .int .i64 0, .int .i64 0, .int .i64 0, .int .i64 0, .int .u32 0, .slice none 0 0, .slice none 0 0, .slice none 0 0] 27)).alloc (.cells #[.string ⟨b.toArray⟩, .bool false] 55)) := (Below.refl _ _).alloc (Nat.le_refl _) _
    exact ⟨hal.trans (h2.mono hal.size), HZ0.out.rz.on h2⟩
  clear hal HZ0 h1 hr0 r0
  go_enter Tryd.func12, Tryd.ntmps12
  go_wp2_with fail
  refine (HA.out _ _ HR.out).mono ?_
  rintro e w1 ⟨m, a, r, rfl, hf, hrr, how, hsm, hk⟩
  have HF : Hid (Fin4 ⟨b, false⟩ m r) := hf
  have HSm : Hid (Mx.Small m) := hsm
  have HP0 : Hid (Pz1 W (w1.alloc (.cells #[.int .i64 m.level, .int .i64 m.nodes, .int .i64 m.cycles, .int .i64 m.length, .int .i64 m.enable, .int .i64 m.unit, .int .i64 m.init, .int .u32 (m.ref : Int), .slice a.s1 m.masters.length a.c1, .slice a.s2 m.messages.length a.c2, .slice a.s3 m.windows.length a.c3] 27)) w1.heap.size r m a) := by
    have hb1 : Below W.heap.size W w1 := HZ1.out.bel.trans (hk.below (fun g hg => by rw [hg]; omega) HZ1.out.bel.size)
    have hal : Below w1.heap.size w1 (w1.alloc (.cells #[.int .i64 m.level, .int .i64 m.nodes, .int .i64 m.cycles, .int .i64 m.length, .int .i64 m.enable, .int .i64 m.unit, .int .i64 m.init, .int .u32 (m.ref : Int), .slice a.s1 m.masters.length a.c1, .slice a.s2 m.messages.length a.c2, .slice a.s3 m.windows.length a.c3] 27)) := (Below.refl _ _).alloc (Nat.le_refl _) _
    refine ⟨⟨hb1.trans (hal.mono hb1.size), (HZ1.out.rz.kept hk (by omega)).on hal⟩, hrr.on hal, RowT.new _ _ _, ?_⟩
    exact (⟨how.o1.mono HZ1.out.bel.size, how.o2.mono HZ1.out.bel.size, how.o3.mono HZ1.out.bel.size⟩ : Ow3 W.heap.size w1 m a).on hal
  clear hf hrr how hsm hk HA HR HZ1
  dsimp only [mV, mCs]
  go_upto_region 5 with fail
  generalize w1.alloc (.cells #[.int .i64 m.level, .int .i64 m.nodes, .int .i64 m.cycles, .int .i64 m.length, .int .i64 m.enable, .int .i64 m.unit, .int .i64 m.init, .int .u32 (m.ref : Int), .slice a.s1 m.masters.length a.c1, .slice a.s2 m.messages.length a.c2, .slice a.s3 m.windows.length a.c3] 27) = v0 at HP0 ⊢
  generalize w1.heap.size = pm at HP0 ⊢
  have cr0 : v0.cell? ⟨W.heap.size + 1, 0, none⟩ = some (.string ⟨r.s.toArray⟩) := HP0.out.rr.c 0 _ rfl
  have cr1 : v0.cell? ⟨W.heap.size + 1, 1, none⟩ = some (.bool r.bad) := HP0.out.rr.c 1 _ rfl
  cases hb : r.bad
  · rw [hb] at cr1
    have HL := Pq.lM_end (fin_good HF.out hb)
    have HI : Hid (Calls Tryd.prog 19 #[mV m a] v0 fun e w' => e = .returned (.bool (Mx.is m)) ∧ Below v0.heap.size v0 w') := mk_is v0 (HQ.out _ HP0.out.z.bel) m a HP0.out.ow.mem HSm.out
    cases hs : r.s with
    | cons x t =>
      rw [hs] at cr0
      have HT : Hid (∀ n, ¬ Pq.Of b n) := HL.2.1 (by rw [hs]; simp)
      clear HL HI
      go_wp2_with (refine wpList_store_row (P := Tryd.prog) rfl 27 (.tmp 2) (.tmp 25) rfl W.heap.size (mCs Mx.nil0 Ma.nil0) rfl rfl 27 _ HP0.out.z.rz minfo13 rfl (mcs_one _ _) ?_)
      obtain ⟨hz, hbl, hkk⟩ := HP0.out.z.res (mCs Mx.nil0 Ma.nil0)
      have HTd : Hid (Told b (.returned (.tuple #[mV Mx.nil0 Ma.nil0, .int .i64 130])) (v0.setRow W.heap.size (mCs Mx.nil0 Ma.nil0))) := Or.inr ⟨HT.out, Ma.nil0, rfl, min_nil _⟩
      generalize v0.setRow W.heap.size (mCs Mx.nil0 Ma.nil0) = wz at *
      have z0 := hz.c 0 _ rfl
      have z1 := hz.c 1 _ rfl
      have z2 := hz.c 2 _ rfl
      have z3 := hz.c 3 _ rfl
      have z4 := hz.c 4 _ rfl
      have z5 := hz.c 5 _ rfl
      have z6 := hz.c 6 _ rfl
      have z7 := hz.c 7 _ rfl
      have z8 := hz.c 8 _ rfl
      have z9 := hz.c 9 _ rfl
      have z10 := hz.c 10 _ rfl
      exact bodyPost_ret (v := .tuple #[mV Mx.nil0 Ma.nil0, .int .i64 130]) (by simp [results, Tryd.results12, go_sem, mCs, Mx.nil0, Ma.nil0, z0, z1, z2, z3, z4, z5, z6, z7, z8, z9, z10]) rfl ⟨HTd.out, hbl⟩
    | nil =>
      rw [hs] at cr0
      have cm0 : v0.cell? ⟨pm, 0, none⟩ = some (.int .i64 m.level) := HP0.out.rm.c 0 _ rfl
      have cm1 : v0.cell? ⟨pm, 1, none⟩ = some (.int .i64 m.nodes) := HP0.out.rm.c 1 _ rfl
      have cm2 : v0.cell? ⟨pm, 2, none⟩ = some (.int .i64 m.cycles) := HP0.out.rm.c 2 _ rfl
      have cm3 : v0.cell? ⟨pm, 3, none⟩ = some (.int .i64 m.length) := HP0.out.rm.c 3 _ rfl
      have cm4 : v0.cell? ⟨pm, 4, none⟩ = some (.int .i64 m.enable) := HP0.out.rm.c 4 _ rfl
      have cm5 : v0.cell? ⟨pm, 5, none⟩ = some (.int .i64 m.unit) := HP0.out.rm.c 5 _ rfl
      have cm6 : v0.cell? ⟨pm, 6, none⟩ = some (.int .i64 m.init) := HP0.out.rm.c 6 _ rfl
      have cm7 : v0.cell? ⟨pm, 7, none⟩ = some (.int .u32 (m.ref : Int)) := HP0.out.rm.c 7 _ rfl
      have cm8 : v0.cell? ⟨pm, 8, none⟩ = some (.slice a.s1 m.masters.length a.c1) := HP0.out.rm.c 8 _ rfl
      have cm9 : v0.cell? ⟨pm, 9, none⟩ = some (.slice a.s2 m.messages.length a.c2) := HP0.out.rm.c 9 _ rfl
      have cm10 : v0.cell? ⟨pm, 10, none⟩ = some (.slice a.s3 m.windows.length a.c3) := HP0.out.rm.c 10 _ rfl
      cases hi : Mx.is m
      · have HT : Hid (∀ n, ¬ Pq.Of b n) := HL.2.2.1 hi
        rw [hi] at HI
        clear HL hi hb hs
        go_wp2_with fail
        refine HI.out.mono ?_
        rintro e w2 ⟨rfl, hb2⟩
        have HP2 : Hid (Pz1 W w2 pm r m a) := HP0.out.on hb2
        clear hb2 HI HP0 cm0 cm1 cm2 cm3 cm4 cm5 cm6 cm7 cm8 cm9 cm10 cr0 cr1
        go_wp2_with (refine wpList_store_row (P := Tryd.prog) rfl 27 (.tmp 2) (.tmp 25) rfl W.heap.size (mCs Mx.nil0 Ma.nil0) rfl rfl 27 _ HP2.out.z.rz minfo13 rfl (mcs_one _ _) ?_)
        obtain ⟨hz, hbl, hkk⟩ := HP2.out.z.res (mCs Mx.nil0 Ma.nil0)
        have HTd : Hid (Told b (.returned (.tuple #[mV Mx.nil0 Ma.nil0, .int .i64 130])) (w2.setRow W.heap.size (mCs Mx.nil0 Ma.nil0))) := Or.inr ⟨HT.out, Ma.nil0, rfl, min_nil _⟩
        generalize w2.setRow W.heap.size (mCs Mx.nil0 Ma.nil0) = wz at *
        have z0 := hz.c 0 _ rfl
        have z1 := hz.c 1 _ rfl
        have z2 := hz.c 2 _ rfl
        have z3 := hz.c 3 _ rfl
        have z4 := hz.c 4 _ rfl
        have z5 := hz.c 5 _ rfl
        have z6 := hz.c 6 _ rfl
        have z7 := hz.c 7 _ rfl
        have z8 := hz.c 8 _ rfl
        have z9 := hz.c 9 _ rfl
        have z10 := hz.c 10 _ rfl
        exact bodyPost_ret (v := .tuple #[mV Mx.nil0 Ma.nil0, .int .i64 130]) (by simp [results, Tryd.results12, go_sem, mCs, Mx.nil0, Ma.nil0, z0, z1, z2, z3, z4, z5, z6, z7, z8, z9, z10]) rfl ⟨HTd.out, hbl⟩
      · have HO : Hid (Pq.Of b m) := HL.2.2.2 hb hs hi
        rw [hi] at HI
        clear HL hi hb hs
        go_wp2_with fail
        refine HI.out.mono ?_
        rintro e w2 ⟨rfl, hb2⟩
        have HP2 : Hid (Pz1 W w2 pm r m a) := HP0.out.on hb2
        clear hb2 HI HP0 cm0 cm1 cm2 cm3 cm4 cm5 cm6 cm7 cm8 cm9 cm10 cr0 cr1
        have cm0 : w2.cell? ⟨pm, 0, none⟩ = some (.int .i64 m.level) := HP2.out.rm.c 0 _ rfl
        have cm1 : w2.cell? ⟨pm, 1, none⟩ = some (.int .i64 m.nodes) := HP2.out.rm.c 1 _ rfl
        have cm2 : w2.cell? ⟨pm, 2, none⟩ = some (.int .i64 m.cycles) := HP2.out.rm.c 2 _ rfl
        have cm3 : w2.cell? ⟨pm, 3, none⟩ = some (.int .i64 m.length) := HP2.out.rm.c 3 _ rfl
        have cm4 : w2.cell? ⟨pm, 4, none⟩ = some (.int .i64 m.enable) := HP2.out.rm.c 4 _ rfl
        have cm5 : w2.cell? ⟨pm, 5, none⟩ = some (.int .i64 m.unit) := HP2.out.rm.c 5 _ rfl
        have cm6 : w2.cell? ⟨pm, 6, none⟩ = some (.int .i64 m.init) := HP2.out.rm.c 6 _ rfl
        have cm7 : w2.cell? ⟨pm, 7, none⟩ = some (.int .u32 (m.ref : Int)) := HP2.out.rm.c 7 _ rfl
        have cm8 : w2.cell? ⟨pm, 8, none⟩ = some (.slice a.s1 m.masters.length a.c1) := HP2.out.rm.c 8 _ rfl
        have cm9 : w2.cell? ⟨pm, 9, none⟩ = some (.slice a.s2 m.messages.length a.c2) := HP2.out.rm.c 9 _ rfl
        have cm10 : w2.cell? ⟨pm, 10, none⟩ = some (.slice a.s3 m.windows.length a.c3) := HP2.out.rm.c 10 _ rfl
        go_wp2_with (refine wpList_store_row (P := Tryd.prog) rfl 27 (.tmp 2) (.tmp 26) rfl W.heap.size (mCs m a) rfl rfl 27 _ HP2.out.z.rz minfo13 rfl (mcs_one _ _) ?_)
        obtain ⟨hz, hbl, hkk⟩ := HP2.out.z.res (mCs m a)
        have HTd : Hid (Told b (.returned (.tuple #[mV m a, .int .i64 0])) (w2.setRow W.heap.size (mCs m a))) := Or.inl ⟨m, a, HO.out, rfl, HP2.out.kept hkk⟩
        generalize w2.setRow W.heap.size (mCs m a) = wz at *
        have z0 := hz.c 0 _ rfl
        have z1 := hz.c 1 _ rfl
        have z2 := hz.c 2 _ rfl
        have z3 := hz.c 3 _ rfl
        have z4 := hz.c 4 _ rfl
        have z5 := hz.c 5 _ rfl
        have z6 := hz.c 6 _ rfl
        have z7 := hz.c 7 _ rfl
        have z8 := hz.c 8 _ rfl
        have z9 := hz.c 9 _ rfl
        have z10 := hz.c 10 _ rfl
        exact bodyPost_ret (v := .tuple #[mV m a, .int .i64 0]) (by simp [results, Tryd.results12, go_sem, mCs, z0, z1, z2, z3, z4, z5, z6, z7, z8, z9, z10]) rfl ⟨HTd.out, hbl⟩
  · rw [hb] at cr1
    have HT : Hid (∀ n, ¬ Pq.Of b n) := fin_bad HF.out hb
    clear hb
    go_wp2_with (refine wpList_store_row (P := Tryd.prog) rfl 27 (.tmp 2) (.tmp 25) rfl W.heap.size (mCs Mx.nil0 Ma.nil0) rfl rfl 27 _ HP0.out.z.rz minfo13 rfl (mcs_one _ _) ?_)
    obtain ⟨hz, hbl, hkk⟩ := HP0.out.z.res (mCs Mx.nil0 Ma.nil0)
    have HTd : Hid (Told b (.returned (.tuple #[mV Mx.nil0 Ma.nil0, .int .i64 130])) (v0.setRow W.heap.size (mCs Mx.nil0 Ma.nil0))) := Or.inr ⟨HT.out, Ma.nil0, rfl, min_nil _⟩
    generalize v0.setRow W.heap.size (mCs Mx.nil0 Ma.nil0) = wz at *
    have z0 := hz.c 0 _ rfl
    have z1 := hz.c 1 _ rfl
    have z2 := hz.c 2 _ rfl
    have z3 := hz.c 3 _ rfl
    have z4 := hz.c 4 _ rfl
    have z5 := hz.c 5 _ rfl
    have z6 := hz.c 6 _ rfl
    have z7 := hz.c 7 _ rfl
    have z8 := hz.c 8 _ rfl
    have z9 := hz.c 9 _ rfl
    have z10 := hz.c 10 _ rfl
    exact bodyPost_ret (v := .tuple #[mV Mx.nil0 Ma.nil0, .int .i64 130]) (by simp [results, Tryd.results12, go_sem, mCs, Mx.nil0, Ma.nil0, z0, z1, z2, z3, z4, z5, z6, z7, z8, z9, z10]) rfl ⟨HTd.out, hbl⟩
theorem confSpec : ConfSpec Tab where
  print := fun w m a hT hm hS _ => ck_print w hT m a hm hS
  parse := fun w b hT hl => ck_parse w hT b hl
  size := fun w m a hT hm hS _ => ck_size w hT m a hm hS
end Go.Proofs.YtcdalfhmmipiaaaDoor
