/- Package config, over the landed code: the reader of bytes. -/
import Derived.Test.YtcdalfhmmipiaaaDoorP4
import Derived.Test.YtcdalfhmmipiaaaDoorP7
import Derived.Test.YtcdalfhmmipiaaaDoorBc
import Derived.Deep.CutBlock
namespace Go.Proofs.YtcdalfhmmipiaaaDoor
open Go.RowKit Go.WideShapes
set_option linter.unusedVariables false
/-- A call that turns a reader and tells something. -/
def Told4 (w : World) (q : Nat) (v : Value) (r : Pq.R) (e : Ending) (w' : World) : Prop := e = .returned v ∧ RowT 55 w' q (rC r) ∧ Kept (fun j => j = q) w w'
set_option maxRecDepth 100000 in
set_option maxHeartbeats 1000000 in
theorem rd_one (w : World) (q : Nat) (r : Pq.R) (h : RowT 55 w q (rC r)) (hl : r.s.length ≤ 1000) : Calls Tryd.prog 41 #[Ob.ptr q] w (Told4 w q (.int .i64 (Pq.one r).1) (Pq.one r).2) := by
  have HR : Hid (RowT 55 w q (rC r)) := h
  obtain ⟨s, b⟩ := r
  have c0 : w.cell? ⟨q, 0, none⟩ = some (.string ⟨s.toArray⟩) := h.c 0 _ rfl
  have c1 : w.cell? ⟨q, 1, none⟩ = some (.bool b) := h.c 1 _ rfl
  have f0 := h.f 0
  have f1 := h.f 1
  clear h
  cases s with
  | nil =>
    have HW : Hid (Pq.one ⟨[], b⟩ = (0, ⟨[], true⟩)) := rfl
    rw [HW.out]
    clear HW
    go_enter Tryd.func41, Tryd.ntmps41
    go_wp2
    go_ret
    exact ⟨rfl, HR.out.set 1 _, Kept.set _ _ _ rfl⟩
  | cons x t =>
    have HW : Hid (Pq.one ⟨x :: t, b⟩ = ((x.toNat : Int), ⟨t, b⟩)) := rfl
    rw [HW.out]
    clear HW
    have hlen : (⟨(x :: t).toArray⟩ : ByteArray).size = t.length + 1 := by show (x :: t).toArray.size = _; simp
    have hl' : t.length ≤ 999 := by simp at hl; omega
    have HX : Hid ((⟨(x :: t).toArray⟩ : ByteArray).extract 1 (t.length + 1) = ⟨t.toArray⟩) := tail_ext x t
    go_enter Tryd.func41, Tryd.ntmps41
    go_wp2
    go_ret
    refine ⟨?_, ?_, Kept.set _ _ _ rfl⟩
    · show Ending.returned (.int .i64 (wrap64 (x.toNat : Int))) = _
      rw [IntWalk.wrap64_in _ (by have := x.toNat_lt; omega)]
    rw [HX.out]
    exact HR.out.set 0 _
theorem i64_or_nat (a b : Nat) (ha : a < 1048576) (hb : b < 1048576) : bits .or .i64 (a : Int) (b : Int) = ((a ||| b : Nat) : Int) := by
  have hx : a ||| b < 2 ^ 20 := Nat.or_lt_two_pow (by omega) (by omega)
  have ho : ∀ x : Nat, x < 1048576 → (BitVec.ofInt 64 (x : Int)).toNat = x := fun x hx => by rw [BitVec.ofInt_natCast, BitVec.toNat_ofNat]; exact Nat.mod_eq_of_lt (by omega)
  show IntKind.i64.wrap ((BitVec.ofInt 64 (a : Int) ||| BitVec.ofInt 64 (b : Int)).toNat : Int) = _
  rw [BitVec.toNat_or, ho a ha, ho b hb, IntKind.wrap_i64]
  omega
theorem or_byte (a b : Int) (h1 : 0 ≤ a) (h2 : a < 256) (h3 : 0 ≤ b) (h4 : b < 256) : bits .or .i64 (a * 256) b = 256 * a + b := by
  obtain ⟨m, rfl⟩ := Int.eq_ofNat_of_zero_le h1
  obtain ⟨n, rfl⟩ := Int.eq_ofNat_of_zero_le h3
  have hm : m < 256 := by omega
  have hn : n < 256 := by omega
  have e : ((m : Int) * 256) = ((m * 256 : Nat) : Int) := by simp
  rw [e, i64_or_nat _ _ (by omega) (by omega)]
  have h := Nat.two_pow_add_eq_or_of_lt (i := 8) (b := n) (by simpa using hn) m
  rw [Nat.mul_comm m 256]
  have h' : 256 * m + n = 256 * m ||| n := h
  rw [← h']
  omega
set_option maxRecDepth 100000 in
set_option maxHeartbeats 1000000 in
theorem rd_two (w : World) (q : Nat) (r : Pq.R) (h : RowT 55 w q (rC r)) (hl : r.s.length ≤ 1000) : Calls Tryd.prog 47 #[Ob.ptr q] w (Told4 w q (.int .i64 (Pq.twoR r).1) (Pq.twoR r).2) := by
  have h1 := rd_one w q r h hl
  have HL : Hid ((Pq.one r).2.s.length ≤ 1000) := Nat.le_trans (one_len r) hl
  have n1 := one_num r
  have n2 := one_num (Pq.one r).2
  have HE : Hid ((Pq.twoR r).1 = 256 * (Pq.one r).1 + (Pq.one (Pq.one r).2).1) := rfl
  have HE2 : Hid ((Pq.twoR r).2 = (Pq.one (Pq.one r).2).2) := rfl
  rw [HE.out, HE2.out]
  clear HE HE2 h hl
  generalize (Pq.one r).1 = a1 at *
  generalize (Pq.one r).2 = r1 at *
  have H2 : Hid (∀ w', RowT 55 w' q (rC r1) → Calls Tryd.prog 41 #[Ob.ptr q] w' (Told4 w' q (.int .i64 (Pq.one r1).1) (Pq.one r1).2)) := fun w' h' => rd_one w' q r1 h' HL.out
  generalize (Pq.one r1).1 = a2 at *
  generalize (Pq.one r1).2 = r2 at *
  obtain ⟨n1a, n1b⟩ := n1
  obtain ⟨n2a, n2b⟩ := n2
  have HO : Hid (bits .or .i64 (a1 * 256) a2 = 256 * a1 + a2) := or_byte a1 a2 n1a n1b n2a n2b
  go_enter Tryd.func47, Tryd.ntmps47
  go_wp2_with fail
  refine h1.mono ?_
  rintro e w1 ⟨rfl, hr1, hk1⟩
  have HR1 : Hid (RowT 55 w1 q (rC r1)) := hr1
  have HK1 : Hid (Kept (fun j => j = q) w w1) := hk1
  clear hr1 hk1 h1
  go_wp2_with fail
  refine (H2.out _ HR1.out).mono ?_
  rintro e w2 ⟨rfl, hr2, hk2⟩
  have HR2 : Hid (RowT 55 w2 q (rC r2)) := hr2
  have HK2 : Hid (Kept (fun j => j = q) w w2) := HK1.out.trans hk2 (fun g hg => Or.inl hg)
  clear hr2 hk2 HR1 HK1
  go_wp2
  go_ret
  rw [← HO.out]
  exact ⟨rfl, HR2.out, HK2.out⟩
set_option maxRecDepth 100000 in
set_option maxHeartbeats 1000000 in
theorem rd_flag (w : World) (q : Nat) (r : Pq.R) (h : RowT 55 w q (rC r)) (hl : r.s.length ≤ 1000) : Calls Tryd.prog 48 #[Ob.ptr q] w (Told4 w q (.bool (Pq.flag r).1) (Pq.flag r).2) := by
  have h1 := rd_one w q r h hl
  have n1 := one_num r
  have HE : Hid ((Pq.flag r).1 = ((Pq.one r).1 == 1)) := rfl
  have HE2 : Hid ((Pq.flag r).2 = ⟨(Pq.one r).2.s, (Pq.one r).2.bad || decide (1 < (Pq.one r).1)⟩) := rfl
  rw [HE.out, HE2.out]
  clear HE HE2 h hl
  generalize (Pq.one r).1 = a1 at *
  generalize (Pq.one r).2 = r1 at *
  obtain ⟨n1a, n1b⟩ := n1
  by_cases ha : 1 < a1
  · have HD : Hid ((⟨r1.s, r1.bad || decide (1 < a1)⟩ : Pq.R) = ⟨r1.s, true⟩) := by rw [decide_eq_true ha, Bool.or_true]; exact rfl
    rw [HD.out]
    clear HD
    go_enter Tryd.func48, Tryd.ntmps48
    go_wp2_with fail
    refine h1.mono ?_
    rintro e w1 ⟨rfl, hr1, hk1⟩
    have f1 := hr1.f 1
    have c1 : w1.cell? ⟨q, 1, none⟩ = some (.bool r1.bad) := hr1.c 1 _ rfl
    have HR1 : Hid (RowT 55 w1 q (rC r1)) := hr1
    have HK1 : Hid (Kept (fun j => j = q) w w1) := hk1
    clear hr1 hk1 h1
    go_wp2
    go_ret
    exact ⟨rfl, HR1.out.set 1 _, HK1.out.trans (Kept.set (F := fun j => j = q) _ _ _ rfl) (fun g hg => Or.inl hg)⟩
  · have HD : Hid ((⟨r1.s, r1.bad || decide (1 < a1)⟩ : Pq.R) = r1) := by rw [decide_eq_false ha, Bool.or_false]; exact rfl
    rw [HD.out]
    clear HD
    go_enter Tryd.func48, Tryd.ntmps48
    go_wp2_with fail
    refine h1.mono ?_
    rintro e w1 ⟨rfl, hr1, hk1⟩
    have HR1 : Hid (RowT 55 w1 q (rC r1)) := hr1
    have HK1 : Hid (Kept (fun j => j = q) w w1) := hk1
    clear hr1 hk1 h1
    go_wp2
    go_ret
    exact ⟨rfl, HR1.out, HK1.out⟩
theorem flag_len (r : Pq.R) : (Pq.flag r).2.s.length ≤ r.s.length := one_len r
/-- While a method reads: the reader, the result, what is being filled, both of one type. -/
structure Rh (w v : World) (q : Nat) (T : TypeId) (pz pm : Nat) (z cs : Array Value) (r : Pq.R) : Prop where
  rr : RowT 55 v q (rC r)
  rz : RowT T v pz z
  rm : RowT T v pm cs
  nt : T ≠ 55
  ne : pz ≠ pm
  bz : w.heap.size ≤ pz
  bm : w.heap.size ≤ pm
  kept : Kept (fun j => j = q) w v
section
variable {w v v' : World} {q : Nat} {T : TypeId} {pz pm : Nat} {z cs : Array Value} {r r' : Pq.R}
theorem Rh.mk1 (rr : RowT 55 v q (rC r)) (rz : RowT T v pz z) (nt : T ≠ 55) (bz : w.heap.size ≤ pz) (hk : Kept (fun j => j = q) w v) : Rh w (v.alloc (.cells cs T)) q T pz v.heap.size z cs r := by
  have hal : Below v.heap.size v (v.alloc (.cells cs T)) := (Below.refl _ _).alloc (Nat.le_refl _) _
  exact ⟨rr.on hal, rz.on hal, RowT.new _ _ _, nt, Nat.ne_of_lt rz.lt, bz, hk.size, hk.trans (Kept.of_below (F := fun _ => False) hal) (fun g hg => hg.elim)⟩
theorem Rh.rd (h : Rh w v q T pz pm z cs r) (hr : RowT 55 v' q (rC r')) (hk : Kept (fun j => j = q) v v') : Rh w v' q T pz pm z cs r' :=
  ⟨hr, h.rz.kept hk (row_ne h.rz h.rr h.nt), h.rm.kept hk (row_ne h.rm h.rr h.nt), h.nt, h.ne, h.bz, h.bm, h.kept.trans hk (fun g hg => Or.inl hg)⟩
theorem Rh.set (h : Rh w v q T pz pm z cs r) (k : Nat) (x : Value) : Rh w (v.setCell ⟨pm, k, none⟩ x) q T pz pm z (cs.setIfInBounds k x) r := by
  have hk : Kept (fun j => j = pm) v (v.setCell ⟨pm, k, none⟩ x) := Kept.set _ _ _ rfl
  exact ⟨h.rr.kept hk (fun e => row_ne h.rm h.rr h.nt e.symm), h.rz.kept hk h.ne, h.rm.set k x, h.nt, h.ne, h.bz, h.bm, h.kept.trans hk (fun g hg => Or.inr (by rw [hg]; exact h.bm))⟩
theorem Rh.res (h : Rh w v q T pz pm z cs r) (c : Array Value) : RowT T (v.setRow pz c) pz c ∧ RowT 55 (v.setRow pz c) q (rC r) ∧ Kept (fun j => j = q) w (v.setRow pz c) := by
  have hk : Kept (fun j => j = pz) v (v.setRow pz c) := ⟨rfl, rfl, rfl, by simp [World.setRow], fun k _ hk => setRow_other v pz k _ (fun e => hk (by omega))⟩
  exact ⟨setRow_heap _ _ _ _ _ _ h.rz, h.rr.kept hk (fun e => row_ne h.rz h.rr h.nt e.symm), h.kept.trans hk (fun g hg => Or.inr (by rw [hg]; exact h.bz))⟩
end
theorem ginfo11 : (Tryd.prog.info? 27).map (·.size) = some 11 := by kernel_rfl
theorem ginfo3 : (Tryd.prog.info? 49).map (·.size) = some 3 := by kernel_rfl
theorem ginfo6 : (Tryd.prog.info? 52).map (·.size) = some 6 := by kernel_rfl
set_option maxRecDepth 100000 in
set_option maxHeartbeats 2000000 in
theorem rd_message (w : World) (q : Nat) (r0 : Pq.R) (h : RowT 55 w q (rC r0)) (hl : r0.s.length ≤ 1000) : Calls Tryd.prog 42 #[Ob.ptr q] w (Told4 w q (.agg (mC2 (Pq.lMes r0).1).toArray) (Pq.lMes r0).2) := by
  have H1 : Hid (∀ (w : World) (r : Pq.R), RowT 55 w q (rC r) → r.s.length ≤ 1000 → Calls Tryd.prog 41 #[Ob.ptr q] w (Told4 w q (.int .i64 (Pq.one r).1) (Pq.one r).2)) := fun w r => rd_one w q r
  have H2 : Hid (∀ (w : World) (r : Pq.R), RowT 55 w q (rC r) → r.s.length ≤ 1000 → Calls Tryd.prog 47 #[Ob.ptr q] w (Told4 w q (.int .i64 (Pq.twoR r).1) (Pq.twoR r).2)) := fun w r => rd_two w q r
  have H3 : Hid (∀ (w : World) (r : Pq.R), RowT 55 w q (rC r) → r.s.length ≤ 1000 → Calls Tryd.prog 48 #[Ob.ptr q] w (Told4 w q (.bool (Pq.flag r).1) (Pq.flag r).2)) := fun w r => rd_flag w q r
  have HLr0 : Hid (r0.s.length ≤ 1000) := hl
  obtain ⟨pz, hpz⟩ : ∃ z, w.heap.size = z := ⟨_, rfl⟩
  have HV : Hid (Rh w ((w.alloc (.cells #[.int .u32 0, .int .i64 0, .bool false] 49)).alloc (.cells #[.int .u32 0, .int .i64 0, .bool false] 49)) q 49 w.heap.size (w.heap.size + 1) #[.int .u32 0, .int .i64 0, .bool false] #[.int .u32 0, .int .i64 0, .bool false] r0) := by
    have hal : Below w.heap.size w (w.alloc (.cells #[.int .u32 0, .int .i64 0, .bool false] 49)) := (Below.refl _ _).alloc (Nat.le_refl _) _
    have := Rh.mk1 (w := w) (cs := #[.int .u32 0, .int .i64 0, .bool false]) (h.on hal) (RowT.new 49 w #[.int .u32 0, .int .i64 0, .bool false]) (by decide) (Nat.le_refl _) (Kept.of_below (F := fun j => j = q) hal)
    have e : (w.alloc (.cells #[.int .u32 0, .int .i64 0, .bool false] 49)).heap.size = w.heap.size + 1 := by simp
    rw [e] at this
    exact this
  clear h hl hpz pz
  go_enter Tryd.func42, Tryd.ntmps42
  go_wp2_with fail
  have HV0 : Hid (Rh w ((w.alloc (.cells #[.int .u32 0, .int .i64 0, .bool false] 49)).alloc (.cells #[.int .u32 0, .int .i64 0, .bool false] 49)) q 49 w.heap.size (w.heap.size + 1) #[.int .u32 0, .int .i64 0, .bool false] #[.int .u32 0, .int .i64 0, .bool false] r0) := HV.out
  clear HV
  generalize hv0 : (w.alloc (.cells #[.int .u32 0, .int .i64 0, .bool false] 49)).alloc (.cells #[.int .u32 0, .int .i64 0, .bool false] 49) = v0 at HV0 ⊢
  generalize hpm : w.heap.size + 1 = pm at HV0 ⊢
  generalize hpz : w.heap.size = pz at HV0 ⊢
  clear hpm hpz hv0
  have hc := H2.out _ _ HV0.out.rr HLr0.out
  obtain ⟨x0, hx⟩ : ∃ z, (Pq.twoR r0).1 = z := ⟨_, rfl⟩
  obtain ⟨r1, hr⟩ : ∃ z, (Pq.twoR r0).2 = z := ⟨_, rfl⟩
  have HLr1 : Hid (r1.s.length ≤ 1000) := by show _ ≤ _; rw [← hr]; exact Nat.le_trans (two_len _) HLr0.out
  have HEr1 : Hid (Pq.twoR r0 = (x0, r1)) := by rw [← hx, ← hr]; rfl
  rw [hx, hr] at hc
  refine hc.mono ?_
  rintro e u0 ⟨rfl, hrr, hkk⟩
  have HU0 : Hid (Rh w u0 q 49 pz pm #[.int .u32 0, .int .i64 0, .bool false] #[.int .u32 0, .int .i64 0, .bool false] r1) := HV0.out.rd hrr hkk
  clear hc hx hr hrr hkk
  obtain ⟨R, hR⟩ : ∃ R : Nat, (x0 % 4294967296).toNat = R := ⟨_, rfl⟩
  have eR : IntKind.u32.wrap x0 = (R : Int) := by rw [IntKind.wrap_u32, ← hR]; omega
  have HRf : Hid ((x0 % 4294967296).toNat = R) := hR
  clear hR
  have HV1 : Hid (Rh w (u0.setCell ⟨pm, 0, none⟩ (.int .u32 (R : Int))) q 49 pz pm #[.int .u32 0, .int .i64 0, .bool false] #[.int .u32 (R : Int), .int .i64 0, .bool false] r1) := HU0.out.set 0 _
  have fw := HU0.out.rm.f 0
  have cw : u0.cell? ⟨pm, 0, none⟩ = some (.int .u32 0) := HU0.out.rm.c 0 _ rfl
  clear HV0 HLr0 HU0
  go_wp2_with fail
  generalize u0.setCell ⟨pm, 0, none⟩ (.int .u32 (R : Int)) = v1 at HV1 ⊢
  clear fw cw
  have hc := H1.out _ _ HV1.out.rr HLr1.out
  obtain ⟨x1, hx⟩ : ∃ z, (Pq.one r1).1 = z := ⟨_, rfl⟩
  obtain ⟨r2, hr⟩ : ∃ z, (Pq.one r1).2 = z := ⟨_, rfl⟩
  have HLr2 : Hid (r2.s.length ≤ 1000) := by show _ ≤ _; rw [← hr]; exact Nat.le_trans (one_len _) HLr1.out
  have HEr2 : Hid (Pq.one r1 = (x1, r2)) := by rw [← hx, ← hr]; rfl
  rw [hx, hr] at hc
  refine hc.mono ?_
  rintro e u1 ⟨rfl, hrr, hkk⟩
  have HU1 : Hid (Rh w u1 q 49 pz pm #[.int .u32 0, .int .i64 0, .bool false] #[.int .u32 (R : Int), .int .i64 0, .bool false] r2) := HV1.out.rd hrr hkk
  clear hc hx hr hrr hkk
  have HV2 : Hid (Rh w (u1.setCell ⟨pm, 1, none⟩ (.int .i64 x1)) q 49 pz pm #[.int .u32 0, .int .i64 0, .bool false] #[.int .u32 (R : Int), .int .i64 x1, .bool false] r2) := HU1.out.set 1 _
  have fw := HU1.out.rm.f 1
  have cw : u1.cell? ⟨pm, 1, none⟩ = some (.int .i64 0) := HU1.out.rm.c 1 _ rfl
  clear HV1 HLr1 HU1
  go_wp2_with fail
  generalize u1.setCell ⟨pm, 1, none⟩ (.int .i64 x1) = v2 at HV2 ⊢
  clear fw cw
  have hc := H3.out _ _ HV2.out.rr HLr2.out
  obtain ⟨x2, hx⟩ : ∃ z, (Pq.flag r2).1 = z := ⟨_, rfl⟩
  obtain ⟨r3, hr⟩ : ∃ z, (Pq.flag r2).2 = z := ⟨_, rfl⟩
  have HLr3 : Hid (r3.s.length ≤ 1000) := by show _ ≤ _; rw [← hr]; exact Nat.le_trans (flag_len _) HLr2.out
  have HEr3 : Hid (Pq.flag r2 = (x2, r3)) := by rw [← hx, ← hr]; rfl
  rw [hx, hr] at hc
  refine hc.mono ?_
  rintro e u2 ⟨rfl, hrr, hkk⟩
  have HU2 : Hid (Rh w u2 q 49 pz pm #[.int .u32 0, .int .i64 0, .bool false] #[.int .u32 (R : Int), .int .i64 x1, .bool false] r3) := HV2.out.rd hrr hkk
  clear hc hx hr hrr hkk
  have HV3 : Hid (Rh w (u2.setCell ⟨pm, 2, none⟩ (.bool x2)) q 49 pz pm #[.int .u32 0, .int .i64 0, .bool false] #[.int .u32 (R : Int), .int .i64 x1, .bool x2] r3) := HU2.out.set 2 _
  have fw := HU2.out.rm.f 2
  have cw : u2.cell? ⟨pm, 2, none⟩ = some (.bool false) := HU2.out.rm.c 2 _ rfl
  clear HV2 HLr2 HU2
  go_upto_region 5 with fail
  generalize u2.setCell ⟨pm, 2, none⟩ (.bool x2) = vz at HV3 ⊢
  clear fw cw
  have q0 : vz.cell? ⟨pm, 0, none⟩ = some (.int .u32 (R : Int)) := HV3.out.rm.c 0 _ rfl
  have q1 : vz.cell? ⟨pm, 1, none⟩ = some (.int .i64 x1) := HV3.out.rm.c 1 _ rfl
  have q2 : vz.cell? ⟨pm, 2, none⟩ = some (.bool x2) := HV3.out.rm.c 2 _ rfl
  go_wp2_with (refine wpList_store_row (P := Tryd.prog) rfl 49 (.tmp 2) (.tmp 14) rfl pz #[.int .u32 (R : Int), .int .i64 x1, .bool x2] rfl rfl 49 _ HV3.out.rz ginfo3 rfl (by simp [Value.oneCell']) ?_)
  obtain ⟨hz, hrr, hkk⟩ := HV3.out.res #[.int .u32 (R : Int), .int .i64 x1, .bool x2]
  generalize vz.setRow pz #[.int .u32 (R : Int), .int .i64 x1, .bool x2] = wz at hz hrr hkk ⊢
  have z0 := hz.c 0 _ rfl
  have z1 := hz.c 1 _ rfl
  have z2 := hz.c 2 _ rfl
  have HT : Hid (Pq.lMes r0 = (⟨R, x1, x2⟩, r3)) := by
    show _ = _
    unfold Pq.lMes
    simp only [HEr1.out, HEr2.out, HEr3.out, HRf.out]
  exact bodyPost_ret (v := .agg #[.int .u32 (R : Int), .int .i64 x1, .bool x2]) (by simp [results, Tryd.results42, go_sem, z0, z1, z2]) rfl ⟨by rw [HT.out]; first | done | rfl, by rw [HT.out]; exact hrr, hkk⟩
set_option maxRecDepth 100000 in
set_option maxHeartbeats 2000000 in
theorem rd_window (w : World) (q : Nat) (r0 : Pq.R) (h : RowT 55 w q (rC r0)) (hl : r0.s.length ≤ 1000) : Calls Tryd.prog 43 #[Ob.ptr q] w (Told4 w q (.agg (mC3 (Pq.rWin r0).1).toArray) (Pq.rWin r0).2) := by
  have H1 : Hid (∀ (w : World) (r : Pq.R), RowT 55 w q (rC r) → r.s.length ≤ 1000 → Calls Tryd.prog 41 #[Ob.ptr q] w (Told4 w q (.int .i64 (Pq.one r).1) (Pq.one r).2)) := fun w r => rd_one w q r
  have H2 : Hid (∀ (w : World) (r : Pq.R), RowT 55 w q (rC r) → r.s.length ≤ 1000 → Calls Tryd.prog 47 #[Ob.ptr q] w (Told4 w q (.int .i64 (Pq.twoR r).1) (Pq.twoR r).2)) := fun w r => rd_two w q r
  have HLr0 : Hid (r0.s.length ≤ 1000) := hl
  obtain ⟨pz, hpz⟩ : ∃ z, w.heap.size = z := ⟨_, rfl⟩
  have HV : Hid (Rh w ((w.alloc (.cells #[.int .i64 0, .int .i64 0, .int .i64 0, .int .i64 0, .int .i64 0, .int .i64 0] 52)).alloc (.cells #[.int .i64 0, .int .i64 0, .int .i64 0, .int .i64 0, .int .i64 0, .int .i64 0] 52)) q 52 w.heap.size (w.heap.size + 1) #[.int .i64 0, .int .i64 0, .int .i64 0, .int .i64 0, .int .i64 0, .int .i64 0] #[.int .i64 0, .int .i64 0, .int .i64 0, .int .i64 0, .int .i64 0, .int .i64 0] r0) := by
    have hal : Below w.heap.size w (w.alloc (.cells #[.int .i64 0, .int .i64 0, .int .i64 0, .int .i64 0, .int .i64 0, .int .i64 0] 52)) := (Below.refl _ _).alloc (Nat.le_refl _) _
    have := Rh.mk1 (w := w) (cs := #[.int .i64 0, .int .i64 0, .int .i64 0, .int .i64 0, .int .i64 0, .int .i64 0]) (h.on hal) (RowT.new 52 w #[.int .i64 0, .int .i64 0, .int .i64 0, .int .i64 0, .int .i64 0, .int .i64 0]) (by decide) (Nat.le_refl _) (Kept.of_below (F := fun j => j = q) hal)
    have e : (w.alloc (.cells #[.int .i64 0, .int .i64 0, .int .i64 0, .int .i64 0, .int .i64 0, .int .i64 0] 52)).heap.size = w.heap.size + 1 := by simp
    rw [e] at this
    exact this
  clear h hl hpz pz
  go_enter Tryd.func43, Tryd.ntmps43
  go_wp2_with fail
  have HV0 : Hid (Rh w ((w.alloc (.cells #[.int .i64 0, .int .i64 0, .int .i64 0, .int .i64 0, .int .i64 0, .int .i64 0] 52)).alloc (.cells #[.int .i64 0, .int .i64 0, .int .i64 0, .int .i64 0, .int .i64 0, .int .i64 0] 52)) q 52 w.heap.size (w.heap.size + 1) #[.int .i64 0, .int .i64 0, .int .i64 0, .int .i64 0, .int .i64 0, .int .i64 0] #[.int .i64 0, .int .i64 0, .int .i64 0, .int .i64 0, .int .i64 0, .int .i64 0] r0) := HV.out
  clear HV
  generalize hv0 : (w.alloc (.cells #[.int .i64 0, .int .i64 0, .int .i64 0, .int .i64 0, .int .i64 0, .int .i64 0] 52)).alloc (.cells #[.int .i64 0, .int .i64 0, .int .i64 0, .int .i64 0, .int .i64 0, .int .i64 0] 52) = v0 at HV0 ⊢
  generalize hpm : w.heap.size + 1 = pm at HV0 ⊢
  generalize hpz : w.heap.size = pz at HV0 ⊢
  clear hpm hpz hv0
  have hc := H1.out _ _ HV0.out.rr HLr0.out
  obtain ⟨x0, hx⟩ : ∃ z, (Pq.one r0).1 = z := ⟨_, rfl⟩
  obtain ⟨r1, hr⟩ : ∃ z, (Pq.one r0).2 = z := ⟨_, rfl⟩
  have HLr1 : Hid (r1.s.length ≤ 1000) := by show _ ≤ _; rw [← hr]; exact Nat.le_trans (one_len _) HLr0.out
  have HEr1 : Hid (Pq.one r0 = (x0, r1)) := by rw [← hx, ← hr]; rfl
  rw [hx, hr] at hc
  refine hc.mono ?_
  rintro e u0 ⟨rfl, hrr, hkk⟩
  have HU0 : Hid (Rh w u0 q 52 pz pm #[.int .i64 0, .int .i64 0, .int .i64 0, .int .i64 0, .int .i64 0, .int .i64 0] #[.int .i64 0, .int .i64 0, .int .i64 0, .int .i64 0, .int .i64 0, .int .i64 0] r1) := HV0.out.rd hrr hkk
  clear hc hx hr hrr hkk
  have HV1 : Hid (Rh w (u0.setCell ⟨pm, 0, none⟩ (.int .i64 x0)) q 52 pz pm #[.int .i64 0, .int .i64 0, .int .i64 0, .int .i64 0, .int .i64 0, .int .i64 0] #[.int .i64 x0, .int .i64 0, .int .i64 0, .int .i64 0, .int .i64 0, .int .i64 0] r1) := HU0.out.set 0 _
  have fw := HU0.out.rm.f 0
  have cw : u0.cell? ⟨pm, 0, none⟩ = some (.int .i64 0) := HU0.out.rm.c 0 _ rfl
  clear HV0 HLr0 HU0
  go_wp2_with fail
  generalize u0.setCell ⟨pm, 0, none⟩ (.int .i64 x0) = v1 at HV1 ⊢
  clear fw cw
  have hc := H2.out _ _ HV1.out.rr HLr1.out
  obtain ⟨x1, hx⟩ : ∃ z, (Pq.twoR r1).1 = z := ⟨_, rfl⟩
  obtain ⟨r2, hr⟩ : ∃ z, (Pq.twoR r1).2 = z := ⟨_, rfl⟩
  have HLr2 : Hid (r2.s.length ≤ 1000) := by show _ ≤ _; rw [← hr]; exact Nat.le_trans (two_len _) HLr1.out
  have HEr2 : Hid (Pq.twoR r1 = (x1, r2)) := by rw [← hx, ← hr]; rfl
  rw [hx, hr] at hc
  refine hc.mono ?_
  rintro e u1 ⟨rfl, hrr, hkk⟩
  have HU1 : Hid (Rh w u1 q 52 pz pm #[.int .i64 0, .int .i64 0, .int .i64 0, .int .i64 0, .int .i64 0, .int .i64 0] #[.int .i64 x0, .int .i64 0, .int .i64 0, .int .i64 0, .int .i64 0, .int .i64 0] r2) := HV1.out.rd hrr hkk
  clear hc hx hr hrr hkk
  have HV2 : Hid (Rh w (u1.setCell ⟨pm, 1, none⟩ (.int .i64 x1)) q 52 pz pm #[.int .i64 0, .int .i64 0, .int .i64 0, .int .i64 0, .int .i64 0, .int .i64 0] #[.int .i64 x0, .int .i64 x1, .int .i64 0, .int .i64 0, .int .i64 0, .int .i64 0] r2) := HU1.out.set 1 _
  have fw := HU1.out.rm.f 1
  have cw : u1.cell? ⟨pm, 1, none⟩ = some (.int .i64 0) := HU1.out.rm.c 1 _ rfl
  clear HV1 HLr1 HU1
  go_wp2_with fail
  generalize u1.setCell ⟨pm, 1, none⟩ (.int .i64 x1) = v2 at HV2 ⊢
  clear fw cw
  have hc := H2.out _ _ HV2.out.rr HLr2.out
  obtain ⟨x2, hx⟩ : ∃ z, (Pq.twoR r2).1 = z := ⟨_, rfl⟩
  obtain ⟨r3, hr⟩ : ∃ z, (Pq.twoR r2).2 = z := ⟨_, rfl⟩
  have HLr3 : Hid (r3.s.length ≤ 1000) := by show _ ≤ _; rw [← hr]; exact Nat.le_trans (two_len _) HLr2.out
  have HEr3 : Hid (Pq.twoR r2 = (x2, r3)) := by rw [← hx, ← hr]; rfl
  rw [hx, hr] at hc
  refine hc.mono ?_
  rintro e u2 ⟨rfl, hrr, hkk⟩
  have HU2 : Hid (Rh w u2 q 52 pz pm #[.int .i64 0, .int .i64 0, .int .i64 0, .int .i64 0, .int .i64 0, .int .i64 0] #[.int .i64 x0, .int .i64 x1, .int .i64 0, .int .i64 0, .int .i64 0, .int .i64 0] r3) := HV2.out.rd hrr hkk
  clear hc hx hr hrr hkk
  have HV3 : Hid (Rh w (u2.setCell ⟨pm, 2, none⟩ (.int .i64 x2)) q 52 pz pm #[.int .i64 0, .int .i64 0, .int .i64 0, .int .i64 0, .int .i64 0, .int .i64 0] #[.int .i64 x0, .int .i64 x1, .int .i64 x2, .int .i64 0, .int .i64 0, .int .i64 0] r3) := HU2.out.set 2 _
  have fw := HU2.out.rm.f 2
  have cw : u2.cell? ⟨pm, 2, none⟩ = some (.int .i64 0) := HU2.out.rm.c 2 _ rfl
  clear HV2 HLr2 HU2
  go_wp2_with fail
  generalize u2.setCell ⟨pm, 2, none⟩ (.int .i64 x2) = v3 at HV3 ⊢
  clear fw cw
  have hc := H1.out _ _ HV3.out.rr HLr3.out
  obtain ⟨x3, hx⟩ : ∃ z, (Pq.one r3).1 = z := ⟨_, rfl⟩
  obtain ⟨r4, hr⟩ : ∃ z, (Pq.one r3).2 = z := ⟨_, rfl⟩
  have HLr4 : Hid (r4.s.length ≤ 1000) := by show _ ≤ _; rw [← hr]; exact Nat.le_trans (one_len _) HLr3.out
  have HEr4 : Hid (Pq.one r3 = (x3, r4)) := by rw [← hx, ← hr]; rfl
  rw [hx, hr] at hc
  refine hc.mono ?_
  rintro e u3 ⟨rfl, hrr, hkk⟩
  have HU3 : Hid (Rh w u3 q 52 pz pm #[.int .i64 0, .int .i64 0, .int .i64 0, .int .i64 0, .int .i64 0, .int .i64 0] #[.int .i64 x0, .int .i64 x1, .int .i64 x2, .int .i64 0, .int .i64 0, .int .i64 0] r4) := HV3.out.rd hrr hkk
  clear hc hx hr hrr hkk
  have HV4 : Hid (Rh w (u3.setCell ⟨pm, 3, none⟩ (.int .i64 x3)) q 52 pz pm #[.int .i64 0, .int .i64 0, .int .i64 0, .int .i64 0, .int .i64 0, .int .i64 0] #[.int .i64 x0, .int .i64 x1, .int .i64 x2, .int .i64 x3, .int .i64 0, .int .i64 0] r4) := HU3.out.set 3 _
  have fw := HU3.out.rm.f 3
  have cw : u3.cell? ⟨pm, 3, none⟩ = some (.int .i64 0) := HU3.out.rm.c 3 _ rfl
  clear HV3 HLr3 HU3
  go_wp2_with fail
  generalize u3.setCell ⟨pm, 3, none⟩ (.int .i64 x3) = v4 at HV4 ⊢
  clear fw cw
  have hc := H1.out _ _ HV4.out.rr HLr4.out
  obtain ⟨x4, hx⟩ : ∃ z, (Pq.one r4).1 = z := ⟨_, rfl⟩
  obtain ⟨r5, hr⟩ : ∃ z, (Pq.one r4).2 = z := ⟨_, rfl⟩
  have HLr5 : Hid (r5.s.length ≤ 1000) := by show _ ≤ _; rw [← hr]; exact Nat.le_trans (one_len _) HLr4.out
  have HEr5 : Hid (Pq.one r4 = (x4, r5)) := by rw [← hx, ← hr]; rfl
  rw [hx, hr] at hc
  refine hc.mono ?_
  rintro e u4 ⟨rfl, hrr, hkk⟩
  have HU4 : Hid (Rh w u4 q 52 pz pm #[.int .i64 0, .int .i64 0, .int .i64 0, .int .i64 0, .int .i64 0, .int .i64 0] #[.int .i64 x0, .int .i64 x1, .int .i64 x2, .int .i64 x3, .int .i64 0, .int .i64 0] r5) := HV4.out.rd hrr hkk
  clear hc hx hr hrr hkk
  have HV5 : Hid (Rh w (u4.setCell ⟨pm, 4, none⟩ (.int .i64 x4)) q 52 pz pm #[.int .i64 0, .int .i64 0, .int .i64 0, .int .i64 0, .int .i64 0, .int .i64 0] #[.int .i64 x0, .int .i64 x1, .int .i64 x2, .int .i64 x3, .int .i64 x4, .int .i64 0] r5) := HU4.out.set 4 _
  have fw := HU4.out.rm.f 4
  have cw : u4.cell? ⟨pm, 4, none⟩ = some (.int .i64 0) := HU4.out.rm.c 4 _ rfl
  clear HV4 HLr4 HU4
  go_wp2_with fail
  generalize u4.setCell ⟨pm, 4, none⟩ (.int .i64 x4) = v5 at HV5 ⊢
  clear fw cw
  have hc := H1.out _ _ HV5.out.rr HLr5.out
  obtain ⟨x5, hx⟩ : ∃ z, (Pq.one r5).1 = z := ⟨_, rfl⟩
  obtain ⟨r6, hr⟩ : ∃ z, (Pq.one r5).2 = z := ⟨_, rfl⟩
  have HLr6 : Hid (r6.s.length ≤ 1000) := by show _ ≤ _; rw [← hr]; exact Nat.le_trans (one_len _) HLr5.out
  have HEr6 : Hid (Pq.one r5 = (x5, r6)) := by rw [← hx, ← hr]; rfl
  rw [hx, hr] at hc
  refine hc.mono ?_
  rintro e u5 ⟨rfl, hrr, hkk⟩
  have HU5 : Hid (Rh w u5 q 52 pz pm #[.int .i64 0, .int .i64 0, .int .i64 0, .int .i64 0, .int .i64 0, .int .i64 0] #[.int .i64 x0, .int .i64 x1, .int .i64 x2, .int .i64 x3, .int .i64 x4, .int .i64 0] r6) := HV5.out.rd hrr hkk
  clear hc hx hr hrr hkk
  have HV6 : Hid (Rh w (u5.setCell ⟨pm, 5, none⟩ (.int .i64 x5)) q 52 pz pm #[.int .i64 0, .int .i64 0, .int .i64 0, .int .i64 0, .int .i64 0, .int .i64 0] #[.int .i64 x0, .int .i64 x1, .int .i64 x2, .int .i64 x3, .int .i64 x4, .int .i64 x5] r6) := HU5.out.set 5 _
  have fw := HU5.out.rm.f 5
  have cw : u5.cell? ⟨pm, 5, none⟩ = some (.int .i64 0) := HU5.out.rm.c 5 _ rfl
  clear HV5 HLr5 HU5
  go_upto_region 8 with fail
  generalize u5.setCell ⟨pm, 5, none⟩ (.int .i64 x5) = vz at HV6 ⊢
  clear fw cw
  have q0 : vz.cell? ⟨pm, 0, none⟩ = some (.int .i64 x0) := HV6.out.rm.c 0 _ rfl
  have q1 : vz.cell? ⟨pm, 1, none⟩ = some (.int .i64 x1) := HV6.out.rm.c 1 _ rfl
  have q2 : vz.cell? ⟨pm, 2, none⟩ = some (.int .i64 x2) := HV6.out.rm.c 2 _ rfl
  have q3 : vz.cell? ⟨pm, 3, none⟩ = some (.int .i64 x3) := HV6.out.rm.c 3 _ rfl
  have q4 : vz.cell? ⟨pm, 4, none⟩ = some (.int .i64 x4) := HV6.out.rm.c 4 _ rfl
  have q5 : vz.cell? ⟨pm, 5, none⟩ = some (.int .i64 x5) := HV6.out.rm.c 5 _ rfl
  go_wp2_with (refine wpList_store_row (P := Tryd.prog) rfl 52 (.tmp 2) (.tmp 22) rfl pz #[.int .i64 x0, .int .i64 x1, .int .i64 x2, .int .i64 x3, .int .i64 x4, .int .i64 x5] rfl rfl 52 _ HV6.out.rz ginfo6 rfl (by simp [Value.oneCell']) ?_)
  obtain ⟨hz, hrr, hkk⟩ := HV6.out.res #[.int .i64 x0, .int .i64 x1, .int .i64 x2, .int .i64 x3, .int .i64 x4, .int .i64 x5]
  generalize vz.setRow pz #[.int .i64 x0, .int .i64 x1, .int .i64 x2, .int .i64 x3, .int .i64 x4, .int .i64 x5] = wz at hz hrr hkk ⊢
  have z0 := hz.c 0 _ rfl
  have z1 := hz.c 1 _ rfl
  have z2 := hz.c 2 _ rfl
  have z3 := hz.c 3 _ rfl
  have z4 := hz.c 4 _ rfl
  have z5 := hz.c 5 _ rfl
  have HT : Hid (Pq.rWin r0 = (⟨x0, x1, x2, x3, x4, x5⟩, r6)) := by
    show _ = _
    unfold Pq.rWin
    simp only [HEr1.out, HEr2.out, HEr3.out, HEr4.out, HEr5.out, HEr6.out]
  exact bodyPost_ret (v := .agg #[.int .i64 x0, .int .i64 x1, .int .i64 x2, .int .i64 x3, .int .i64 x4, .int .i64 x5]) (by simp [results, Tryd.results43, go_sem, z0, z1, z2, z3, z4, z5]) rfl ⟨by rw [HT.out]; first | done | rfl, by rw [HT.out]; exact hrr, hkk⟩
theorem head_len (r : Pq.R) : (Pq.sign r).s.length ≤ r.s.length := one_len r
set_option maxRecDepth 100000 in
set_option maxHeartbeats 4000000 in
theorem rd_head (w : World) (q : Nat) (r : Pq.R) (h : RowT 55 w q (rC r)) (hl : r.s.length ≤ 1000) : Calls Tryd.prog 40 #[Ob.ptr q] w (Told4 w q (mV (Pq.lHead r).1 Ma.nil0) (Pq.lHead r).2) := by
  have H1 : Hid (∀ (w : World) (r : Pq.R), RowT 55 w q (rC r) → r.s.length ≤ 1000 → Calls Tryd.prog 41 #[Ob.ptr q] w (Told4 w q (.int .i64 (Pq.one r).1) (Pq.one r).2)) := fun w r => rd_one w q r
  have H2 : Hid (∀ (w : World) (r : Pq.R), RowT 55 w q (rC r) → r.s.length ≤ 1000 → Calls Tryd.prog 47 #[Ob.ptr q] w (Told4 w q (.int .i64 (Pq.twoR r).1) (Pq.twoR r).2)) := fun w r => rd_two w q r
  have HLr0 : Hid ((Pq.sign r).s.length ≤ 1000) := Nat.le_trans (head_len r) hl
  have hal : Below w.heap.size w (w.alloc (.cells #[.int .i64 0, .int .i64 0, .int .i64 0, .int .i64 0, .int .i64 0, .int .i64 0, .int .i64 0, .int .u32 0, .slice none 0 0, .slice none 0 0, .slice none 0 0] 27)) := (Below.refl _ _).alloc (Nat.le_refl _) _
  have H0 : Hid (Calls Tryd.prog 41 #[Ob.ptr q] (w.alloc (.cells #[.int .i64 0, .int .i64 0, .int .i64 0, .int .i64 0, .int .i64 0, .int .i64 0, .int .i64 0, .int .u32 0, .slice none 0 0, .slice none 0 0, .slice none 0 0] 27)) (Told4 (w.alloc (.cells #[.int .i64 0, .int .i64 0, .int .i64 0, .int .i64 0, .int .i64 0, .int .i64 0, .int .i64 0, .int .u32 0, .slice none 0 0, .slice none 0 0, .slice none 0 0] 27)) q (.int .i64 (Pq.one r).1) (Pq.one r).2)) := rd_one _ q r (h.on hal) hl
  have HZ : Hid (RowT 27 (w.alloc (.cells #[.int .i64 0, .int .i64 0, .int .i64 0, .int .i64 0, .int .i64 0, .int .i64 0, .int .i64 0, .int .u32 0, .slice none 0 0, .slice none 0 0, .slice none 0 0] 27)) w.heap.size #[.int .i64 0, .int .i64 0, .int .i64 0, .int .i64 0, .int .i64 0, .int .i64 0, .int .i64 0, .int .u32 0, .slice none 0 0, .slice none 0 0, .slice none 0 0]) := RowT.new _ _ _
  have HA : Hid (Kept (fun j => j = q) w (w.alloc (.cells #[.int .i64 0, .int .i64 0, .int .i64 0, .int .i64 0, .int .i64 0, .int .i64 0, .int .i64 0, .int .u32 0, .slice none 0 0, .slice none 0 0, .slice none 0 0] 27))) := Kept.of_below hal
  have HQ : Hid (q < w.heap.size) := h.lt
  clear h hl hal
  obtain ⟨r0, hr0⟩ : ∃ z, Pq.sign r = z := ⟨_, rfl⟩
  have HE0 : Hid (Pq.sign r = r0) := hr0
  have HS0 : Hid (r0 = ⟨(Pq.one r).2.s, (Pq.one r).2.bad || !((Pq.one r).1 == 79)⟩) := hr0.symm
  rw [hr0] at HLr0
  clear hr0
  generalize (Pq.one r).1 = a1 at *
  generalize (Pq.one r).2 = r1 at *
  cases ha : a1 == 79
  · skip
    rw [ha] at HS0
    have hne : ¬ (a1 = 79) := fun e => by rw [e] at ha; cases ha
    clear ha
    go_enter Tryd.func40, Tryd.ntmps40
    go_wp2_with fail
    refine H0.out.mono ?_
    rintro e w1 ⟨rfl, hr1, hk1⟩
    have hz1 : RowT 27 w1 w.heap.size #[.int .i64 0, .int .i64 0, .int .i64 0, .int .i64 0, .int .i64 0, .int .i64 0, .int .i64 0, .int .u32 0, .slice none 0 0, .slice none 0 0, .slice none 0 0] := HZ.out.kept hk1 (fun e => by have := HQ.out; omega)
    have hk2 : Kept (fun j => j = q) w w1 := HA.out.trans hk1 (fun g hg => Or.inl hg)
    obtain rfl : r0 = ⟨r1.s, true⟩ := by rw [HS0.out]; exact (by rw [Bool.not_false, Bool.or_true] : (⟨r1.s, r1.bad || !false⟩ : Pq.R) = ⟨r1.s, true⟩)
    have f1 := hr1.f 1
    have c1 : w1.cell? ⟨q, 1, none⟩ = some (.bool r1.bad) := hr1.c 1 _ rfl
    have hks : Kept (fun j => j = q) w1 (w1.setCell ⟨q, 1, none⟩ (.bool true)) := Kept.set _ _ _ rfl
    have HV : Hid (Rh w ((w1.setCell ⟨q, 1, none⟩ (.bool true)).alloc (.cells #[.int .i64 0, .int .i64 0, .int .i64 0, .int .i64 0, .int .i64 0, .int .i64 0, .int .i64 0, .int .u32 0, .slice none 0 0, .slice none 0 0, .slice none 0 0] 27)) q 27 w.heap.size (w1.setCell ⟨q, 1, none⟩ (.bool true)).heap.size #[.int .i64 0, .int .i64 0, .int .i64 0, .int .i64 0, .int .i64 0, .int .i64 0, .int .i64 0, .int .u32 0, .slice none 0 0, .slice none 0 0, .slice none 0 0] #[.int .i64 0, .int .i64 0, .int .i64 0, .int .i64 0, .int .i64 0, .int .i64 0, .int .i64 0, .int .u32 0, .slice none 0 0, .slice none 0 0, .slice none 0 0] ⟨r1.s, true⟩) := Rh.mk1 (hr1.set 1 _) (hz1.kept hks (fun e => by have := HQ.out; omega)) (by decide) (Nat.le_refl _) (hk2.trans hks (fun g hg => Or.inl hg))
    clear hr1 hk1 hz1 hk2 hks H0 HZ HA HS0 HQ
    go_upto_region 3 with fail
    generalize w1.setCell ⟨q, 1, none⟩ (.bool true) = w2 at HV ⊢
    clear f1 c1
    go_wp2_with fail
    have HV0 : Hid (Rh w (w2.alloc (.cells #[.int .i64 0, .int .i64 0, .int .i64 0, .int .i64 0, .int .i64 0, .int .i64 0, .int .i64 0, .int .u32 0, .slice none 0 0, .slice none 0 0, .slice none 0 0] 27)) q 27 w.heap.size w2.heap.size #[.int .i64 0, .int .i64 0, .int .i64 0, .int .i64 0, .int .i64 0, .int .i64 0, .int .i64 0, .int .u32 0, .slice none 0 0, .slice none 0 0, .slice none 0 0] #[.int .i64 0, .int .i64 0, .int .i64 0, .int .i64 0, .int .i64 0, .int .i64 0, .int .i64 0, .int .u32 0, .slice none 0 0, .slice none 0 0, .slice none 0 0] ⟨r1.s, true⟩) := HV.out
    clear HV
    generalize w2.alloc (.cells #[.int .i64 0, .int .i64 0, .int .i64 0, .int .i64 0, .int .i64 0, .int .i64 0, .int .i64 0, .int .u32 0, .slice none 0 0, .slice none 0 0, .slice none 0 0] 27) = v0 at HV0 ⊢
    generalize w2.heap.size = pm at HV0 ⊢
    generalize w.heap.size = pz at HV0 ⊢
    obtain ⟨r0, hr0⟩ : ∃ z : Pq.R, (⟨r1.s, true⟩ : Pq.R) = z := ⟨_, rfl⟩
    have HLz : Hid (r0.s.length ≤ 1000) := by show _ ≤ _; rw [← hr0]; exact HLr0.out
    clear HLr0
    have HLr0 : Hid (r0.s.length ≤ 1000) := HLz.out
    rw [hr0] at HV0 HE0
    clear hr0 hne HLz
    have hc := H1.out _ _ HV0.out.rr HLr0.out
    obtain ⟨x0, hx⟩ : ∃ z, (Pq.one r0).1 = z := ⟨_, rfl⟩
    obtain ⟨r1, hr⟩ : ∃ z, (Pq.one r0).2 = z := ⟨_, rfl⟩
    have HLr1 : Hid (r1.s.length ≤ 1000) := by show _ ≤ _; rw [← hr]; exact Nat.le_trans (one_len _) HLr0.out
    have HEr1 : Hid (Pq.one r0 = (x0, r1)) := by rw [← hx, ← hr]; rfl
    rw [hx, hr] at hc
    refine hc.mono ?_
    rintro e u0 ⟨rfl, hrr, hkk⟩
    have HU0 : Hid (Rh w u0 q 27 pz pm #[.int .i64 0, .int .i64 0, .int .i64 0, .int .i64 0, .int .i64 0, .int .i64 0, .int .i64 0, .int .u32 0, .slice none 0 0, .slice none 0 0, .slice none 0 0] #[.int .i64 0, .int .i64 0, .int .i64 0, .int .i64 0, .int .i64 0, .int .i64 0, .int .i64 0, .int .u32 0, .slice none 0 0, .slice none 0 0, .slice none 0 0] r1) := HV0.out.rd hrr hkk
    clear hc hx hr hrr hkk
    have HV1 : Hid (Rh w (u0.setCell ⟨pm, 0, none⟩ (.int .i64 x0)) q 27 pz pm #[.int .i64 0, .int .i64 0, .int .i64 0, .int .i64 0, .int .i64 0, .int .i64 0, .int .i64 0, .int .u32 0, .slice none 0 0, .slice none 0 0, .slice none 0 0] #[.int .i64 x0, .int .i64 0, .int .i64 0, .int .i64 0, .int .i64 0, .int .i64 0, .int .i64 0, .int .u32 0, .slice none 0 0, .slice none 0 0, .slice none 0 0] r1) := HU0.out.set 0 _
    have fw := HU0.out.rm.f 0
    have cw : u0.cell? ⟨pm, 0, none⟩ = some (.int .i64 0) := HU0.out.rm.c 0 _ rfl
    clear HV0 HLr0 HU0
    go_wp2_with fail
    generalize u0.setCell ⟨pm, 0, none⟩ (.int .i64 x0) = v1 at HV1 ⊢
    clear fw cw
    have hc := H1.out _ _ HV1.out.rr HLr1.out
    obtain ⟨x1, hx⟩ : ∃ z, (Pq.one r1).1 = z := ⟨_, rfl⟩
    obtain ⟨r2, hr⟩ : ∃ z, (Pq.one r1).2 = z := ⟨_, rfl⟩
    have HLr2 : Hid (r2.s.length ≤ 1000) := by show _ ≤ _; rw [← hr]; exact Nat.le_trans (one_len _) HLr1.out
    have HEr2 : Hid (Pq.one r1 = (x1, r2)) := by rw [← hx, ← hr]; rfl
    rw [hx, hr] at hc
    refine hc.mono ?_
    rintro e u1 ⟨rfl, hrr, hkk⟩
    have HU1 : Hid (Rh w u1 q 27 pz pm #[.int .i64 0, .int .i64 0, .int .i64 0, .int .i64 0, .int .i64 0, .int .i64 0, .int .i64 0, .int .u32 0, .slice none 0 0, .slice none 0 0, .slice none 0 0] #[.int .i64 x0, .int .i64 0, .int .i64 0, .int .i64 0, .int .i64 0, .int .i64 0, .int .i64 0, .int .u32 0, .slice none 0 0, .slice none 0 0, .slice none 0 0] r2) := HV1.out.rd hrr hkk
    clear hc hx hr hrr hkk
    have HV2 : Hid (Rh w (u1.setCell ⟨pm, 1, none⟩ (.int .i64 x1)) q 27 pz pm #[.int .i64 0, .int .i64 0, .int .i64 0, .int .i64 0, .int .i64 0, .int .i64 0, .int .i64 0, .int .u32 0, .slice none 0 0, .slice none 0 0, .slice none 0 0] #[.int .i64 x0, .int .i64 x1, .int .i64 0, .int .i64 0, .int .i64 0, .int .i64 0, .int .i64 0, .int .u32 0, .slice none 0 0, .slice none 0 0, .slice none 0 0] r2) := HU1.out.set 1 _
    have fw := HU1.out.rm.f 1
    have cw : u1.cell? ⟨pm, 1, none⟩ = some (.int .i64 0) := HU1.out.rm.c 1 _ rfl
    clear HV1 HLr1 HU1
    go_wp2_with fail
    generalize u1.setCell ⟨pm, 1, none⟩ (.int .i64 x1) = v2 at HV2 ⊢
    clear fw cw
    have hc := H1.out _ _ HV2.out.rr HLr2.out
    obtain ⟨x2, hx⟩ : ∃ z, (Pq.one r2).1 = z := ⟨_, rfl⟩
    obtain ⟨r3, hr⟩ : ∃ z, (Pq.one r2).2 = z := ⟨_, rfl⟩
    have HLr3 : Hid (r3.s.length ≤ 1000) := by show _ ≤ _; rw [← hr]; exact Nat.le_trans (one_len _) HLr2.out
    have HEr3 : Hid (Pq.one r2 = (x2, r3)) := by rw [← hx, ← hr]; rfl
    rw [hx, hr] at hc
    refine hc.mono ?_
    rintro e u2 ⟨rfl, hrr, hkk⟩
    have HU2 : Hid (Rh w u2 q 27 pz pm #[.int .i64 0, .int .i64 0, .int .i64 0, .int .i64 0, .int .i64 0, .int .i64 0, .int .i64 0, .int .u32 0, .slice none 0 0, .slice none 0 0, .slice none 0 0] #[.int .i64 x0, .int .i64 x1, .int .i64 0, .int .i64 0, .int .i64 0, .int .i64 0, .int .i64 0, .int .u32 0, .slice none 0 0, .slice none 0 0, .slice none 0 0] r3) := HV2.out.rd hrr hkk
    clear hc hx hr hrr hkk
    have HV3 : Hid (Rh w (u2.setCell ⟨pm, 2, none⟩ (.int .i64 x2)) q 27 pz pm #[.int .i64 0, .int .i64 0, .int .i64 0, .int .i64 0, .int .i64 0, .int .i64 0, .int .i64 0, .int .u32 0, .slice none 0 0, .slice none 0 0, .slice none 0 0] #[.int .i64 x0, .int .i64 x1, .int .i64 x2, .int .i64 0, .int .i64 0, .int .i64 0, .int .i64 0, .int .u32 0, .slice none 0 0, .slice none 0 0, .slice none 0 0] r3) := HU2.out.set 2 _
    have fw := HU2.out.rm.f 2
    have cw : u2.cell? ⟨pm, 2, none⟩ = some (.int .i64 0) := HU2.out.rm.c 2 _ rfl
    clear HV2 HLr2 HU2
    go_wp2_with fail
    generalize u2.setCell ⟨pm, 2, none⟩ (.int .i64 x2) = v3 at HV3 ⊢
    clear fw cw
    have hc := H2.out _ _ HV3.out.rr HLr3.out
    obtain ⟨x3, hx⟩ : ∃ z, (Pq.twoR r3).1 = z := ⟨_, rfl⟩
    obtain ⟨r4, hr⟩ : ∃ z, (Pq.twoR r3).2 = z := ⟨_, rfl⟩
    have HLr4 : Hid (r4.s.length ≤ 1000) := by show _ ≤ _; rw [← hr]; exact Nat.le_trans (two_len _) HLr3.out
    have HEr4 : Hid (Pq.twoR r3 = (x3, r4)) := by rw [← hx, ← hr]; rfl
    rw [hx, hr] at hc
    refine hc.mono ?_
    rintro e u3 ⟨rfl, hrr, hkk⟩
    have HU3 : Hid (Rh w u3 q 27 pz pm #[.int .i64 0, .int .i64 0, .int .i64 0, .int .i64 0, .int .i64 0, .int .i64 0, .int .i64 0, .int .u32 0, .slice none 0 0, .slice none 0 0, .slice none 0 0] #[.int .i64 x0, .int .i64 x1, .int .i64 x2, .int .i64 0, .int .i64 0, .int .i64 0, .int .i64 0, .int .u32 0, .slice none 0 0, .slice none 0 0, .slice none 0 0] r4) := HV3.out.rd hrr hkk
    clear hc hx hr hrr hkk
    have HV4 : Hid (Rh w (u3.setCell ⟨pm, 3, none⟩ (.int .i64 x3)) q 27 pz pm #[.int .i64 0, .int .i64 0, .int .i64 0, .int .i64 0, .int .i64 0, .int .i64 0, .int .i64 0, .int .u32 0, .slice none 0 0, .slice none 0 0, .slice none 0 0] #[.int .i64 x0, .int .i64 x1, .int .i64 x2, .int .i64 x3, .int .i64 0, .int .i64 0, .int .i64 0, .int .u32 0, .slice none 0 0, .slice none 0 0, .slice none 0 0] r4) := HU3.out.set 3 _
    have fw := HU3.out.rm.f 3
    have cw : u3.cell? ⟨pm, 3, none⟩ = some (.int .i64 0) := HU3.out.rm.c 3 _ rfl
    clear HV3 HLr3 HU3
    go_wp2_with fail
    generalize u3.setCell ⟨pm, 3, none⟩ (.int .i64 x3) = v4 at HV4 ⊢
    clear fw cw
    have hc := H1.out _ _ HV4.out.rr HLr4.out
    obtain ⟨x4, hx⟩ : ∃ z, (Pq.one r4).1 = z := ⟨_, rfl⟩
    obtain ⟨r5, hr⟩ : ∃ z, (Pq.one r4).2 = z := ⟨_, rfl⟩
    have HLr5 : Hid (r5.s.length ≤ 1000) := by show _ ≤ _; rw [← hr]; exact Nat.le_trans (one_len _) HLr4.out
    have HEr5 : Hid (Pq.one r4 = (x4, r5)) := by rw [← hx, ← hr]; rfl
    rw [hx, hr] at hc
    refine hc.mono ?_
    rintro e u4 ⟨rfl, hrr, hkk⟩
    have HU4 : Hid (Rh w u4 q 27 pz pm #[.int .i64 0, .int .i64 0, .int .i64 0, .int .i64 0, .int .i64 0, .int .i64 0, .int .i64 0, .int .u32 0, .slice none 0 0, .slice none 0 0, .slice none 0 0] #[.int .i64 x0, .int .i64 x1, .int .i64 x2, .int .i64 x3, .int .i64 0, .int .i64 0, .int .i64 0, .int .u32 0, .slice none 0 0, .slice none 0 0, .slice none 0 0] r5) := HV4.out.rd hrr hkk
    clear hc hx hr hrr hkk
    have HV5 : Hid (Rh w (u4.setCell ⟨pm, 4, none⟩ (.int .i64 x4)) q 27 pz pm #[.int .i64 0, .int .i64 0, .int .i64 0, .int .i64 0, .int .i64 0, .int .i64 0, .int .i64 0, .int .u32 0, .slice none 0 0, .slice none 0 0, .slice none 0 0] #[.int .i64 x0, .int .i64 x1, .int .i64 x2, .int .i64 x3, .int .i64 x4, .int .i64 0, .int .i64 0, .int .u32 0, .slice none 0 0, .slice none 0 0, .slice none 0 0] r5) := HU4.out.set 4 _
    have fw := HU4.out.rm.f 4
    have cw : u4.cell? ⟨pm, 4, none⟩ = some (.int .i64 0) := HU4.out.rm.c 4 _ rfl
    clear HV4 HLr4 HU4
    go_wp2_with fail
    generalize u4.setCell ⟨pm, 4, none⟩ (.int .i64 x4) = v5 at HV5 ⊢
    clear fw cw
    have hc := H1.out _ _ HV5.out.rr HLr5.out
    obtain ⟨x5, hx⟩ : ∃ z, (Pq.one r5).1 = z := ⟨_, rfl⟩
    obtain ⟨r6, hr⟩ : ∃ z, (Pq.one r5).2 = z := ⟨_, rfl⟩
    have HLr6 : Hid (r6.s.length ≤ 1000) := by show _ ≤ _; rw [← hr]; exact Nat.le_trans (one_len _) HLr5.out
    have HEr6 : Hid (Pq.one r5 = (x5, r6)) := by rw [← hx, ← hr]; rfl
    rw [hx, hr] at hc
    refine hc.mono ?_
    rintro e u5 ⟨rfl, hrr, hkk⟩
    have HU5 : Hid (Rh w u5 q 27 pz pm #[.int .i64 0, .int .i64 0, .int .i64 0, .int .i64 0, .int .i64 0, .int .i64 0, .int .i64 0, .int .u32 0, .slice none 0 0, .slice none 0 0, .slice none 0 0] #[.int .i64 x0, .int .i64 x1, .int .i64 x2, .int .i64 x3, .int .i64 x4, .int .i64 0, .int .i64 0, .int .u32 0, .slice none 0 0, .slice none 0 0, .slice none 0 0] r6) := HV5.out.rd hrr hkk
    clear hc hx hr hrr hkk
    have HV6 : Hid (Rh w (u5.setCell ⟨pm, 5, none⟩ (.int .i64 x5)) q 27 pz pm #[.int .i64 0, .int .i64 0, .int .i64 0, .int .i64 0, .int .i64 0, .int .i64 0, .int .i64 0, .int .u32 0, .slice none 0 0, .slice none 0 0, .slice none 0 0] #[.int .i64 x0, .int .i64 x1, .int .i64 x2, .int .i64 x3, .int .i64 x4, .int .i64 x5, .int .i64 0, .int .u32 0, .slice none 0 0, .slice none 0 0, .slice none 0 0] r6) := HU5.out.set 5 _
    have fw := HU5.out.rm.f 5
    have cw : u5.cell? ⟨pm, 5, none⟩ = some (.int .i64 0) := HU5.out.rm.c 5 _ rfl
    clear HV5 HLr5 HU5
    go_wp2_with fail
    generalize u5.setCell ⟨pm, 5, none⟩ (.int .i64 x5) = v6 at HV6 ⊢
    clear fw cw
    have hc := H2.out _ _ HV6.out.rr HLr6.out
    obtain ⟨x6, hx⟩ : ∃ z, (Pq.twoR r6).1 = z := ⟨_, rfl⟩
    obtain ⟨r7, hr⟩ : ∃ z, (Pq.twoR r6).2 = z := ⟨_, rfl⟩
    have HLr7 : Hid (r7.s.length ≤ 1000) := by show _ ≤ _; rw [← hr]; exact Nat.le_trans (two_len _) HLr6.out
    have HEr7 : Hid (Pq.twoR r6 = (x6, r7)) := by rw [← hx, ← hr]; rfl
    rw [hx, hr] at hc
    refine hc.mono ?_
    rintro e u6 ⟨rfl, hrr, hkk⟩
    have HU6 : Hid (Rh w u6 q 27 pz pm #[.int .i64 0, .int .i64 0, .int .i64 0, .int .i64 0, .int .i64 0, .int .i64 0, .int .i64 0, .int .u32 0, .slice none 0 0, .slice none 0 0, .slice none 0 0] #[.int .i64 x0, .int .i64 x1, .int .i64 x2, .int .i64 x3, .int .i64 x4, .int .i64 x5, .int .i64 0, .int .u32 0, .slice none 0 0, .slice none 0 0, .slice none 0 0] r7) := HV6.out.rd hrr hkk
    clear hc hx hr hrr hkk
    have HV7 : Hid (Rh w (u6.setCell ⟨pm, 6, none⟩ (.int .i64 x6)) q 27 pz pm #[.int .i64 0, .int .i64 0, .int .i64 0, .int .i64 0, .int .i64 0, .int .i64 0, .int .i64 0, .int .u32 0, .slice none 0 0, .slice none 0 0, .slice none 0 0] #[.int .i64 x0, .int .i64 x1, .int .i64 x2, .int .i64 x3, .int .i64 x4, .int .i64 x5, .int .i64 x6, .int .u32 0, .slice none 0 0, .slice none 0 0, .slice none 0 0] r7) := HU6.out.set 6 _
    have fw := HU6.out.rm.f 6
    have cw : u6.cell? ⟨pm, 6, none⟩ = some (.int .i64 0) := HU6.out.rm.c 6 _ rfl
    clear HV6 HLr6 HU6
    go_wp2_with fail
    generalize u6.setCell ⟨pm, 6, none⟩ (.int .i64 x6) = v7 at HV7 ⊢
    clear fw cw
    have hc := H2.out _ _ HV7.out.rr HLr7.out
    obtain ⟨x7, hx⟩ : ∃ z, (Pq.twoR r7).1 = z := ⟨_, rfl⟩
    obtain ⟨r8, hr⟩ : ∃ z, (Pq.twoR r7).2 = z := ⟨_, rfl⟩
    have HLr8 : Hid (r8.s.length ≤ 1000) := by show _ ≤ _; rw [← hr]; exact Nat.le_trans (two_len _) HLr7.out
    have HEr8 : Hid (Pq.twoR r7 = (x7, r8)) := by rw [← hx, ← hr]; rfl
    rw [hx, hr] at hc
    refine hc.mono ?_
    rintro e u7 ⟨rfl, hrr, hkk⟩
    have HU7 : Hid (Rh w u7 q 27 pz pm #[.int .i64 0, .int .i64 0, .int .i64 0, .int .i64 0, .int .i64 0, .int .i64 0, .int .i64 0, .int .u32 0, .slice none 0 0, .slice none 0 0, .slice none 0 0] #[.int .i64 x0, .int .i64 x1, .int .i64 x2, .int .i64 x3, .int .i64 x4, .int .i64 x5, .int .i64 x6, .int .u32 0, .slice none 0 0, .slice none 0 0, .slice none 0 0] r8) := HV7.out.rd hrr hkk
    clear hc hx hr hrr hkk
    obtain ⟨R, hR⟩ : ∃ R : Nat, (x7 % 4294967296).toNat = R := ⟨_, rfl⟩
    have eR : IntKind.u32.wrap x7 = (R : Int) := by rw [IntKind.wrap_u32, ← hR]; omega
    have HRf : Hid ((x7 % 4294967296).toNat = R) := hR
    clear hR
    have HV8 : Hid (Rh w (u7.setCell ⟨pm, 7, none⟩ (.int .u32 (R : Int))) q 27 pz pm #[.int .i64 0, .int .i64 0, .int .i64 0, .int .i64 0, .int .i64 0, .int .i64 0, .int .i64 0, .int .u32 0, .slice none 0 0, .slice none 0 0, .slice none 0 0] #[.int .i64 x0, .int .i64 x1, .int .i64 x2, .int .i64 x3, .int .i64 x4, .int .i64 x5, .int .i64 x6, .int .u32 (R : Int), .slice none 0 0, .slice none 0 0, .slice none 0 0] r8) := HU7.out.set 7 _
    have fw := HU7.out.rm.f 7
    have cw : u7.cell? ⟨pm, 7, none⟩ = some (.int .u32 0) := HU7.out.rm.c 7 _ rfl
    clear HV7 HLr7 HU7
    go_upto_region 12 with fail
    generalize u7.setCell ⟨pm, 7, none⟩ (.int .u32 (R : Int)) = vz at HV8 ⊢
    clear fw cw
    have q0 : vz.cell? ⟨pm, 0, none⟩ = some (.int .i64 x0) := HV8.out.rm.c 0 _ rfl
    have q1 : vz.cell? ⟨pm, 1, none⟩ = some (.int .i64 x1) := HV8.out.rm.c 1 _ rfl
    have q2 : vz.cell? ⟨pm, 2, none⟩ = some (.int .i64 x2) := HV8.out.rm.c 2 _ rfl
    have q3 : vz.cell? ⟨pm, 3, none⟩ = some (.int .i64 x3) := HV8.out.rm.c 3 _ rfl
    have q4 : vz.cell? ⟨pm, 4, none⟩ = some (.int .i64 x4) := HV8.out.rm.c 4 _ rfl
    have q5 : vz.cell? ⟨pm, 5, none⟩ = some (.int .i64 x5) := HV8.out.rm.c 5 _ rfl
    have q6 : vz.cell? ⟨pm, 6, none⟩ = some (.int .i64 x6) := HV8.out.rm.c 6 _ rfl
    have q7 : vz.cell? ⟨pm, 7, none⟩ = some (.int .u32 (R : Int)) := HV8.out.rm.c 7 _ rfl
    have q8 : vz.cell? ⟨pm, 8, none⟩ = some (.slice none 0 0) := HV8.out.rm.c 8 _ rfl
    have q9 : vz.cell? ⟨pm, 9, none⟩ = some (.slice none 0 0) := HV8.out.rm.c 9 _ rfl
    have q10 : vz.cell? ⟨pm, 10, none⟩ = some (.slice none 0 0) := HV8.out.rm.c 10 _ rfl
    go_wp2_with (refine wpList_store_row (P := Tryd.prog) rfl 27 (.tmp 2) (.tmp 35) rfl pz #[.int .i64 x0, .int .i64 x1, .int .i64 x2, .int .i64 x3, .int .i64 x4, .int .i64 x5, .int .i64 x6, .int .u32 (R : Int), .slice none 0 0, .slice none 0 0, .slice none 0 0] rfl rfl 27 _ HV8.out.rz ginfo11 rfl (by simp [Value.oneCell']) ?_)
    obtain ⟨hz, hrr, hkk⟩ := HV8.out.res #[.int .i64 x0, .int .i64 x1, .int .i64 x2, .int .i64 x3, .int .i64 x4, .int .i64 x5, .int .i64 x6, .int .u32 (R : Int), .slice none 0 0, .slice none 0 0, .slice none 0 0]
    generalize vz.setRow pz #[.int .i64 x0, .int .i64 x1, .int .i64 x2, .int .i64 x3, .int .i64 x4, .int .i64 x5, .int .i64 x6, .int .u32 (R : Int), .slice none 0 0, .slice none 0 0, .slice none 0 0] = wz at hz hrr hkk ⊢
    have z0 := hz.c 0 _ rfl
    have z1 := hz.c 1 _ rfl
    have z2 := hz.c 2 _ rfl
    have z3 := hz.c 3 _ rfl
    have z4 := hz.c 4 _ rfl
    have z5 := hz.c 5 _ rfl
    have z6 := hz.c 6 _ rfl
    have z7 := hz.c 7 _ rfl
    have z8 := hz.c 8 _ rfl
    have z9 := hz.c 9 _ rfl
    have z10 := hz.c 10 _ rfl
    have HT : Hid (Pq.lHead r = (⟨x0, x1, x2, x3, x4, x5, x6, R, [], [], []⟩, r8)) := by
      show _ = _
      unfold Pq.lHead
      simp only [HE0.out, HEr1.out, HEr2.out, HEr3.out, HEr4.out, HEr5.out, HEr6.out, HEr7.out, HEr8.out, HRf.out]
    exact bodyPost_ret (v := .agg #[.int .i64 x0, .int .i64 x1, .int .i64 x2, .int .i64 x3, .int .i64 x4, .int .i64 x5, .int .i64 x6, .int .u32 (R : Int), .slice none 0 0, .slice none 0 0, .slice none 0 0]) (by simp [results, Tryd.results40, go_sem, z0, z1, z2, z3, z4, z5, z6, z7, z8, z9, z10]) rfl ⟨by rw [HT.out]; first | done | rfl, by rw [HT.out]; exact hrr, hkk⟩
  · skip
    rw [ha] at HS0
    obtain rfl : a1 = 79 := by simpa using ha
    clear ha
    go_enter Tryd.func40, Tryd.ntmps40
    go_wp2_with fail
    refine H0.out.mono ?_
    rintro e w1 ⟨rfl, hr1, hk1⟩
    have hz1 : RowT 27 w1 w.heap.size #[.int .i64 0, .int .i64 0, .int .i64 0, .int .i64 0, .int .i64 0, .int .i64 0, .int .i64 0, .int .u32 0, .slice none 0 0, .slice none 0 0, .slice none 0 0] := HZ.out.kept hk1 (fun e => by have := HQ.out; omega)
    have hk2 : Kept (fun j => j = q) w w1 := HA.out.trans hk1 (fun g hg => Or.inl hg)
    obtain rfl : r0 = r1 := by rw [HS0.out]; exact (by rw [Bool.or_false] : (⟨r1.s, r1.bad || false⟩ : Pq.R) = ⟨r1.s, r1.bad⟩)
    have HV : Hid (Rh w (w1.alloc (.cells #[.int .i64 0, .int .i64 0, .int .i64 0, .int .i64 0, .int .i64 0, .int .i64 0, .int .i64 0, .int .u32 0, .slice none 0 0, .slice none 0 0, .slice none 0 0] 27)) q 27 w.heap.size w1.heap.size #[.int .i64 0, .int .i64 0, .int .i64 0, .int .i64 0, .int .i64 0, .int .i64 0, .int .i64 0, .int .u32 0, .slice none 0 0, .slice none 0 0, .slice none 0 0] #[.int .i64 0, .int .i64 0, .int .i64 0, .int .i64 0, .int .i64 0, .int .i64 0, .int .i64 0, .int .u32 0, .slice none 0 0, .slice none 0 0, .slice none 0 0] r0) := Rh.mk1 hr1 hz1 (by decide) (Nat.le_refl _) hk2
    clear hr1 hk1 hz1 hk2 H0 HZ HA HS0 HQ
    go_wp2_with fail
    have HV0 : Hid (Rh w (w1.alloc (.cells #[.int .i64 0, .int .i64 0, .int .i64 0, .int .i64 0, .int .i64 0, .int .i64 0, .int .i64 0, .int .u32 0, .slice none 0 0, .slice none 0 0, .slice none 0 0] 27)) q 27 w.heap.size w1.heap.size #[.int .i64 0, .int .i64 0, .int .i64 0, .int .i64 0, .int .i64 0, .int .i64 0, .int .i64 0, .int .u32 0, .slice none 0 0, .slice none 0 0, .slice none 0 0] #[.int .i64 0, .int .i64 0, .int .i64 0, .int .i64 0, .int .i64 0, .int .i64 0, .int .i64 0, .int .u32 0, .slice none 0 0, .slice none 0 0, .slice none 0 0] r0) := HV.out
    clear HV
    generalize w1.alloc (.cells #[.int .i64 0, .int .i64 0, .int .i64 0, .int .i64 0, .int .i64 0, .int .i64 0, .int .i64 0, .int .u32 0, .slice none 0 0, .slice none 0 0, .slice none 0 0] 27) = v0 at HV0 ⊢
    generalize w1.heap.size = pm at HV0 ⊢
    generalize w.heap.size = pz at HV0 ⊢
    have hc := H1.out _ _ HV0.out.rr HLr0.out
    obtain ⟨x0, hx⟩ : ∃ z, (Pq.one r0).1 = z := ⟨_, rfl⟩
    obtain ⟨r1, hr⟩ : ∃ z, (Pq.one r0).2 = z := ⟨_, rfl⟩
    have HLr1 : Hid (r1.s.length ≤ 1000) := by show _ ≤ _; rw [← hr]; exact Nat.le_trans (one_len _) HLr0.out
    have HEr1 : Hid (Pq.one r0 = (x0, r1)) := by rw [← hx, ← hr]; rfl
    rw [hx, hr] at hc
    refine hc.mono ?_
    rintro e u0 ⟨rfl, hrr, hkk⟩
    have HU0 : Hid (Rh w u0 q 27 pz pm #[.int .i64 0, .int .i64 0, .int .i64 0, .int .i64 0, .int .i64 0, .int .i64 0, .int .i64 0, .int .u32 0, .slice none 0 0, .slice none 0 0, .slice none 0 0] #[.int .i64 0, .int .i64 0, .int .i64 0, .int .i64 0, .int .i64 0, .int .i64 0, .int .i64 0, .int .u32 0, .slice none 0 0, .slice none 0 0, .slice none 0 0] r1) := HV0.out.rd hrr hkk
    clear hc hx hr hrr hkk
    have HV1 : Hid (Rh w (u0.setCell ⟨pm, 0, none⟩ (.int .i64 x0)) q 27 pz pm #[.int .i64 0, .int .i64 0, .int .i64 0, .int .i64 0, .int .i64 0, .int .i64 0, .int .i64 0, .int .u32 0, .slice none 0 0, .slice none 0 0, .slice none 0 0] #[.int .i64 x0, .int .i64 0, .int .i64 0, .int .i64 0, .int .i64 0, .int .i64 0, .int .i64 0, .int .u32 0, .slice none 0 0, .slice none 0 0, .slice none 0 0] r1) := HU0.out.set 0 _
    have fw := HU0.out.rm.f 0
    have cw : u0.cell? ⟨pm, 0, none⟩ = some (.int .i64 0) := HU0.out.rm.c 0 _ rfl
    clear HV0 HLr0 HU0
    go_wp2_with fail
    generalize u0.setCell ⟨pm, 0, none⟩ (.int .i64 x0) = v1 at HV1 ⊢
    clear fw cw
    have hc := H1.out _ _ HV1.out.rr HLr1.out
    obtain ⟨x1, hx⟩ : ∃ z, (Pq.one r1).1 = z := ⟨_, rfl⟩
    obtain ⟨r2, hr⟩ : ∃ z, (Pq.one r1).2 = z := ⟨_, rfl⟩
    have HLr2 : Hid (r2.s.length ≤ 1000) := by show _ ≤ _; rw [← hr]; exact Nat.le_trans (one_len _) HLr1.out
    have HEr2 : Hid (Pq.one r1 = (x1, r2)) := by rw [← hx, ← hr]; rfl
    rw [hx, hr] at hc
    refine hc.mono ?_
    rintro e u1 ⟨rfl, hrr, hkk⟩
    have HU1 : Hid (Rh w u1 q 27 pz pm #[.int .i64 0, .int .i64 0, .int .i64 0, .int .i64 0, .int .i64 0, .int .i64 0, .int .i64 0, .int .u32 0, .slice none 0 0, .slice none 0 0, .slice none 0 0] #[.int .i64 x0, .int .i64 0, .int .i64 0, .int .i64 0, .int .i64 0, .int .i64 0, .int .i64 0, .int .u32 0, .slice none 0 0, .slice none 0 0, .slice none 0 0] r2) := HV1.out.rd hrr hkk
    clear hc hx hr hrr hkk
    have HV2 : Hid (Rh w (u1.setCell ⟨pm, 1, none⟩ (.int .i64 x1)) q 27 pz pm #[.int .i64 0, .int .i64 0, .int .i64 0, .int .i64 0, .int .i64 0, .int .i64 0, .int .i64 0, .int .u32 0, .slice none 0 0, .slice none 0 0, .slice none 0 0] #[.int .i64 x0, .int .i64 x1, .int .i64 0, .int .i64 0, .int .i64 0, .int .i64 0, .int .i64 0, .int .u32 0, .slice none 0 0, .slice none 0 0, .slice none 0 0] r2) := HU1.out.set 1 _
    have fw := HU1.out.rm.f 1
    have cw : u1.cell? ⟨pm, 1, none⟩ = some (.int .i64 0) := HU1.out.rm.c 1 _ rfl
    clear HV1 HLr1 HU1
    go_wp2_with fail
    generalize u1.setCell ⟨pm, 1, none⟩ (.int .i64 x1) = v2 at HV2 ⊢
    clear fw cw
    have hc := H1.out _ _ HV2.out.rr HLr2.out
    obtain ⟨x2, hx⟩ : ∃ z, (Pq.one r2).1 = z := ⟨_, rfl⟩
    obtain ⟨r3, hr⟩ : ∃ z, (Pq.one r2).2 = z := ⟨_, rfl⟩
    have HLr3 : Hid (r3.s.length ≤ 1000) := by show _ ≤ _; rw [← hr]; exact Nat.le_trans (one_len _) HLr2.out
    have HEr3 : Hid (Pq.one r2 = (x2, r3)) := by rw [← hx, ← hr]; rfl
    rw [hx, hr] at hc
    refine hc.mono ?_
    rintro e u2 ⟨rfl, hrr, hkk⟩
    have HU2 : Hid (Rh w u2 q 27 pz pm #[.int .i64 0, .int .i64 0, .int .i64 0, .int .i64 0, .int .i64 0, .int .i64 0, .int .i64 0, .int .u32 0, .slice none 0 0, .slice none 0 0, .slice none 0 0] #[.int .i64 x0, .int .i64 x1, .int .i64 0, .int .i64 0, .int .i64 0, .int .i64 0, .int .i64 0, .int .u32 0, .slice none 0 0, .slice none 0 0, .slice none 0 0] r3) := HV2.out.rd hrr hkk
    clear hc hx hr hrr hkk
    have HV3 : Hid (Rh w (u2.setCell ⟨pm, 2, none⟩ (.int .i64 x2)) q 27 pz pm #[.int .i64 0, .int .i64 0, .int .i64 0, .int .i64 0, .int .i64 0, .int .i64 0, .int .i64 0, .int .u32 0, .slice none 0 0, .slice none 0 0, .slice none 0 0] #[.int .i64 x0, .int .i64 x1, .int .i64 x2, .int .i64 0, .int .i64 0, .int .i64 0, .int .i64 0, .int .u32 0, .slice none 0 0, .slice none 0 0, .slice none 0 0] r3) := HU2.out.set 2 _
    have fw := HU2.out.rm.f 2
    have cw : u2.cell? ⟨pm, 2, none⟩ = some (.int .i64 0) := HU2.out.rm.c 2 _ rfl
    clear HV2 HLr2 HU2
    go_wp2_with fail
    generalize u2.setCell ⟨pm, 2, none⟩ (.int .i64 x2) = v3 at HV3 ⊢
    clear fw cw
    have hc := H2.out _ _ HV3.out.rr HLr3.out
    obtain ⟨x3, hx⟩ : ∃ z, (Pq.twoR r3).1 = z := ⟨_, rfl⟩
    obtain ⟨r4, hr⟩ : ∃ z, (Pq.twoR r3).2 = z := ⟨_, rfl⟩
    have HLr4 : Hid (r4.s.length ≤ 1000) := by show _ ≤ _; rw [← hr]; exact Nat.le_trans (two_len _) HLr3.out
    have HEr4 : Hid (Pq.twoR r3 = (x3, r4)) := by rw [← hx, ← hr]; rfl
    rw [hx, hr] at hc
    refine hc.mono ?_
    rintro e u3 ⟨rfl, hrr, hkk⟩
    have HU3 : Hid (Rh w u3 q 27 pz pm #[.int .i64 0, .int .i64 0, .int .i64 0, .int .i64 0, .int .i64 0, .int .i64 0, .int .i64 0, .int .u32 0, .slice none 0 0, .slice none 0 0, .slice none 0 0] #[.int .i64 x0, .int .i64 x1, .int .i64 x2, .int .i64 0, .int .i64 0, .int .i64 0, .int .i64 0, .int .u32 0, .slice none 0 0, .slice none 0 0, .slice none 0 0] r4) := HV3.out.rd hrr hkk
    clear hc hx hr hrr hkk
    have HV4 : Hid (Rh w (u3.setCell ⟨pm, 3, none⟩ (.int .i64 x3)) q 27 pz pm #[.int .i64 0, .int .i64 0, .int .i64 0, .int .i64 0, .int .i64 0, .int .i64 0, .int .i64 0, .int .u32 0, .slice none 0 0, .slice none 0 0, .slice none 0 0] #[.int .i64 x0, .int .i64 x1, .int .i64 x2, .int .i64 x3, .int .i64 0, .int .i64 0, .int .i64 0, .int .u32 0, .slice none 0 0, .slice none 0 0, .slice none 0 0] r4) := HU3.out.set 3 _
    have fw := HU3.out.rm.f 3
    have cw : u3.cell? ⟨pm, 3, none⟩ = some (.int .i64 0) := HU3.out.rm.c 3 _ rfl
    clear HV3 HLr3 HU3
    go_wp2_with fail
    generalize u3.setCell ⟨pm, 3, none⟩ (.int .i64 x3) = v4 at HV4 ⊢
    clear fw cw
    have hc := H1.out _ _ HV4.out.rr HLr4.out
    obtain ⟨x4, hx⟩ : ∃ z, (Pq.one r4).1 = z := ⟨_, rfl⟩
    obtain ⟨r5, hr⟩ : ∃ z, (Pq.one r4).2 = z := ⟨_, rfl⟩
    have HLr5 : Hid (r5.s.length ≤ 1000) := by show _ ≤ _; rw [← hr]; exact Nat.le_trans (one_len _) HLr4.out
    have HEr5 : Hid (Pq.one r4 = (x4, r5)) := by rw [← hx, ← hr]; rfl
    rw [hx, hr] at hc
    refine hc.mono ?_
    rintro e u4 ⟨rfl, hrr, hkk⟩
    have HU4 : Hid (Rh w u4 q 27 pz pm #[.int .i64 0, .int .i64 0, .int .i64 0, .int .i64 0, .int .i64 0, .int .i64 0, .int .i64 0, .int .u32 0, .slice none 0 0, .slice none 0 0, .slice none 0 0] #[.int .i64 x0, .int .i64 x1, .int .i64 x2, .int .i64 x3, .int .i64 0, .int .i64 0, .int .i64 0, .int .u32 0, .slice none 0 0, .slice none 0 0, .slice none 0 0] r5) := HV4.out.rd hrr hkk
    clear hc hx hr hrr hkk
    have HV5 : Hid (Rh w (u4.setCell ⟨pm, 4, none⟩ (.int .i64 x4)) q 27 pz pm #[.int .i64 0, .int .i64 0, .int .i64 0, .int .i64 0, .int .i64 0, .int .i64 0, .int .i64 0, .int .u32 0, .slice none 0 0, .slice none 0 0, .slice none 0 0] #[.int .i64 x0, .int .i64 x1, .int .i64 x2, .int .i64 x3, .int .i64 x4, .int .i64 0, .int .i64 0, .int .u32 0, .slice none 0 0, .slice none 0 0, .slice none 0 0] r5) := HU4.out.set 4 _
    have fw := HU4.out.rm.f 4
    have cw : u4.cell? ⟨pm, 4, none⟩ = some (.int .i64 0) := HU4.out.rm.c 4 _ rfl
    clear HV4 HLr4 HU4
    go_wp2_with fail
    generalize u4.setCell ⟨pm, 4, none⟩ (.int .i64 x4) = v5 at HV5 ⊢
    clear fw cw
    have hc := H1.out _ _ HV5.out.rr HLr5.out
    obtain ⟨x5, hx⟩ : ∃ z, (Pq.one r5).1 = z := ⟨_, rfl⟩
    obtain ⟨r6, hr⟩ : ∃ z, (Pq.one r5).2 = z := ⟨_, rfl⟩
    have HLr6 : Hid (r6.s.length ≤ 1000) := by show _ ≤ _; rw [← hr]; exact Nat.le_trans (one_len _) HLr5.out
    have HEr6 : Hid (Pq.one r5 = (x5, r6)) := by rw [← hx, ← hr]; rfl
    rw [hx, hr] at hc
    refine hc.mono ?_
    rintro e u5 ⟨rfl, hrr, hkk⟩
    have HU5 : Hid (Rh w u5 q 27 pz pm #[.int .i64 0, .int .i64 0, .int .i64 0, .int .i64 0, .int .i64 0, .int .i64 0, .int .i64 0, .int .u32 0, .slice none 0 0, .slice none 0 0, .slice none 0 0] #[.int .i64 x0, .int .i64 x1, .int .i64 x2, .int .i64 x3, .int .i64 x4, .int .i64 0, .int .i64 0, .int .u32 0, .slice none 0 0, .slice none 0 0, .slice none 0 0] r6) := HV5.out.rd hrr hkk
    clear hc hx hr hrr hkk
    have HV6 : Hid (Rh w (u5.setCell ⟨pm, 5, none⟩ (.int .i64 x5)) q 27 pz pm #[.int .i64 0, .int .i64 0, .int .i64 0, .int .i64 0, .int .i64 0, .int .i64 0, .int .i64 0, .int .u32 0, .slice none 0 0, .slice none 0 0, .slice none 0 0] #[.int .i64 x0, .int .i64 x1, .int .i64 x2, .int .i64 x3, .int .i64 x4, .int .i64 x5, .int .i64 0, .int .u32 0, .slice none 0 0, .slice none 0 0, .slice none 0 0] r6) := HU5.out.set 5 _
    have fw := HU5.out.rm.f 5
    have cw : u5.cell? ⟨pm, 5, none⟩ = some (.int .i64 0) := HU5.out.rm.c 5 _ rfl
    clear HV5 HLr5 HU5
    go_wp2_with fail
    generalize u5.setCell ⟨pm, 5, none⟩ (.int .i64 x5) = v6 at HV6 ⊢
    clear fw cw
    have hc := H2.out _ _ HV6.out.rr HLr6.out
    obtain ⟨x6, hx⟩ : ∃ z, (Pq.twoR r6).1 = z := ⟨_, rfl⟩
    obtain ⟨r7, hr⟩ : ∃ z, (Pq.twoR r6).2 = z := ⟨_, rfl⟩
    have HLr7 : Hid (r7.s.length ≤ 1000) := by show _ ≤ _; rw [← hr]; exact Nat.le_trans (two_len _) HLr6.out
    have HEr7 : Hid (Pq.twoR r6 = (x6, r7)) := by rw [← hx, ← hr]; rfl
    rw [hx, hr] at hc
    refine hc.mono ?_
    rintro e u6 ⟨rfl, hrr, hkk⟩
    have HU6 : Hid (Rh w u6 q 27 pz pm #[.int .i64 0, .int .i64 0, .int .i64 0, .int .i64 0, .int .i64 0, .int .i64 0, .int .i64 0, .int .u32 0, .slice none 0 0, .slice none 0 0, .slice none 0 0] #[.int .i64 x0, .int .i64 x1, .int .i64 x2, .int .i64 x3, .int .i64 x4, .int .i64 x5, .int .i64 0, .int .u32 0, .slice none 0 0, .slice none 0 0, .slice none 0 0] r7) := HV6.out.rd hrr hkk
    clear hc hx hr hrr hkk
    have HV7 : Hid (Rh w (u6.setCell ⟨pm, 6, none⟩ (.int .i64 x6)) q 27 pz pm #[.int .i64 0, .int .i64 0, .int .i64 0, .int .i64 0, .int .i64 0, .int .i64 0, .int .i64 0, .int .u32 0, .slice none 0 0, .slice none 0 0, .slice none 0 0] #[.int .i64 x0, .int .i64 x1, .int .i64 x2, .int .i64 x3, .int .i64 x4, .int .i64 x5, .int .i64 x6, .int .u32 0, .slice none 0 0, .slice none 0 0, .slice none 0 0] r7) := HU6.out.set 6 _
    have fw := HU6.out.rm.f 6
    have cw : u6.cell? ⟨pm, 6, none⟩ = some (.int .i64 0) := HU6.out.rm.c 6 _ rfl
    clear HV6 HLr6 HU6
    go_wp2_with fail
    generalize u6.setCell ⟨pm, 6, none⟩ (.int .i64 x6) = v7 at HV7 ⊢
    clear fw cw
    have hc := H2.out _ _ HV7.out.rr HLr7.out
    obtain ⟨x7, hx⟩ : ∃ z, (Pq.twoR r7).1 = z := ⟨_, rfl⟩
    obtain ⟨r8, hr⟩ : ∃ z, (Pq.twoR r7).2 = z := ⟨_, rfl⟩
    have HLr8 : Hid (r8.s.length ≤ 1000) := by show _ ≤ _; rw [← hr]; exact Nat.le_trans (two_len _) HLr7.out
    have HEr8 : Hid (Pq.twoR r7 = (x7, r8)) := by rw [← hx, ← hr]; rfl
    rw [hx, hr] at hc
    refine hc.mono ?_
    rintro e u7 ⟨rfl, hrr, hkk⟩
    have HU7 : Hid (Rh w u7 q 27 pz pm #[.int .i64 0, .int .i64 0, .int .i64 0, .int .i64 0, .int .i64 0, .int .i64 0, .int .i64 0, .int .u32 0, .slice none 0 0, .slice none 0 0, .slice none 0 0] #[.int .i64 x0, .int .i64 x1, .int .i64 x2, .int .i64 x3, .int .i64 x4, .int .i64 x5, .int .i64 x6, .int .u32 0, .slice none 0 0, .slice none 0 0, .slice none 0 0] r8) := HV7.out.rd hrr hkk
    clear hc hx hr hrr hkk
    obtain ⟨R, hR⟩ : ∃ R : Nat, (x7 % 4294967296).toNat = R := ⟨_, rfl⟩
    have eR : IntKind.u32.wrap x7 = (R : Int) := by rw [IntKind.wrap_u32, ← hR]; omega
    have HRf : Hid ((x7 % 4294967296).toNat = R) := hR
    clear hR
    have HV8 : Hid (Rh w (u7.setCell ⟨pm, 7, none⟩ (.int .u32 (R : Int))) q 27 pz pm #[.int .i64 0, .int .i64 0, .int .i64 0, .int .i64 0, .int .i64 0, .int .i64 0, .int .i64 0, .int .u32 0, .slice none 0 0, .slice none 0 0, .slice none 0 0] #[.int .i64 x0, .int .i64 x1, .int .i64 x2, .int .i64 x3, .int .i64 x4, .int .i64 x5, .int .i64 x6, .int .u32 (R : Int), .slice none 0 0, .slice none 0 0, .slice none 0 0] r8) := HU7.out.set 7 _
    have fw := HU7.out.rm.f 7
    have cw : u7.cell? ⟨pm, 7, none⟩ = some (.int .u32 0) := HU7.out.rm.c 7 _ rfl
    clear HV7 HLr7 HU7
    go_upto_region 12 with fail
    generalize u7.setCell ⟨pm, 7, none⟩ (.int .u32 (R : Int)) = vz at HV8 ⊢
    clear fw cw
    have q0 : vz.cell? ⟨pm, 0, none⟩ = some (.int .i64 x0) := HV8.out.rm.c 0 _ rfl
    have q1 : vz.cell? ⟨pm, 1, none⟩ = some (.int .i64 x1) := HV8.out.rm.c 1 _ rfl
    have q2 : vz.cell? ⟨pm, 2, none⟩ = some (.int .i64 x2) := HV8.out.rm.c 2 _ rfl
    have q3 : vz.cell? ⟨pm, 3, none⟩ = some (.int .i64 x3) := HV8.out.rm.c 3 _ rfl
    have q4 : vz.cell? ⟨pm, 4, none⟩ = some (.int .i64 x4) := HV8.out.rm.c 4 _ rfl
    have q5 : vz.cell? ⟨pm, 5, none⟩ = some (.int .i64 x5) := HV8.out.rm.c 5 _ rfl
    have q6 : vz.cell? ⟨pm, 6, none⟩ = some (.int .i64 x6) := HV8.out.rm.c 6 _ rfl
    have q7 : vz.cell? ⟨pm, 7, none⟩ = some (.int .u32 (R : Int)) := HV8.out.rm.c 7 _ rfl
    have q8 : vz.cell? ⟨pm, 8, none⟩ = some (.slice none 0 0) := HV8.out.rm.c 8 _ rfl
    have q9 : vz.cell? ⟨pm, 9, none⟩ = some (.slice none 0 0) := HV8.out.rm.c 9 _ rfl
    have q10 : vz.cell? ⟨pm, 10, none⟩ = some (.slice none 0 0) := HV8.out.rm.c 10 _ rfl
    go_wp2_with (refine wpList_store_row (P := Tryd.prog) rfl 27 (.tmp 2) (.tmp 35) rfl pz #[.int .i64 x0, .int .i64 x1, .int .i64 x2, .int .i64 x3, .int .i64 x4, .int .i64 x5, .int .i64 x6, .int .u32 (R : Int), .slice none 0 0, .slice none 0 0, .slice none 0 0] rfl rfl 27 _ HV8.out.rz ginfo11 rfl (by simp [Value.oneCell']) ?_)
    obtain ⟨hz, hrr, hkk⟩ := HV8.out.res #[.int .i64 x0, .int .i64 x1, .int .i64 x2, .int .i64 x3, .int .i64 x4, .int .i64 x5, .int .i64 x6, .int .u32 (R : Int), .slice none 0 0, .slice none 0 0, .slice none 0 0]
    generalize vz.setRow pz #[.int .i64 x0, .int .i64 x1, .int .i64 x2, .int .i64 x3, .int .i64 x4, .int .i64 x5, .int .i64 x6, .int .u32 (R : Int), .slice none 0 0, .slice none 0 0, .slice none 0 0] = wz at hz hrr hkk ⊢
    have z0 := hz.c 0 _ rfl
    have z1 := hz.c 1 _ rfl
    have z2 := hz.c 2 _ rfl
    have z3 := hz.c 3 _ rfl
    have z4 := hz.c 4 _ rfl
    have z5 := hz.c 5 _ rfl
    have z6 := hz.c 6 _ rfl
    have z7 := hz.c 7 _ rfl
    have z8 := hz.c 8 _ rfl
    have z9 := hz.c 9 _ rfl
    have z10 := hz.c 10 _ rfl
    have HT : Hid (Pq.lHead r = (⟨x0, x1, x2, x3, x4, x5, x6, R, [], [], []⟩, r8)) := by
      show _ = _
      unfold Pq.lHead
      simp only [HE0.out, HEr1.out, HEr2.out, HEr3.out, HEr4.out, HEr5.out, HEr6.out, HEr7.out, HEr8.out, HRf.out]
    exact bodyPost_ret (v := .agg #[.int .i64 x0, .int .i64 x1, .int .i64 x2, .int .i64 x3, .int .i64 x4, .int .i64 x5, .int .i64 x6, .int .u32 (R : Int), .slice none 0 0, .slice none 0 0, .slice none 0 0]) (by simp [results, Tryd.results40, go_sem, z0, z1, z2, z3, z4, z5, z6, z7, z8, z9, z10]) rfl ⟨by rw [HT.out]; first | done | rfl, by rw [HT.out]; exact hrr, hkk⟩
end Go.Proofs.YtcdalfhmmipiaaaDoor
