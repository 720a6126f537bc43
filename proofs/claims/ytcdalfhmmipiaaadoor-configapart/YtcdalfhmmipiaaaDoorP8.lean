/- Package config, over the landed code: the writer of bytes. -/
import Derived.Test.YtcdalfhmmipiaaaDoorP4
namespace Go.Proofs.YtcdalfhmmipiaaaDoor
open Go.RowKit Go.WideShapes
set_option linter.unusedVariables false
/-- A writer in its block, and the bytes that it has laid so far. -/
def Wt (B : Nat) (w : World) (p : Nat) (l : List UInt8) : Prop := ∃ s c n, RowT 45 w p #[.slice s n c] ∧ By B w s c n l ∧ B ≤ p ∧ B ≤ w.heap.size
/-- From one world to another: what is older than so many stays, and so does what is of other types. -/
structure Wk (B : Nat) (w v : World) (p : Nat) (l : List UInt8) : Prop where
  wt : Wt B v p l
  bel : Below B w v
  keep : ∀ (T : TypeId) (g : Nat) (cs : Array Value), T ≠ 5 → T ≠ 45 → RowT T w g cs → RowT T v g cs
def Wrote (B : Nat) (w : World) (p : Nat) (l : List UInt8) (e : Ending) (w' : World) : Prop := e = .returned (.tuple #[]) ∧ Wk B w w' p l
theorem Wk.refl {B : Nat} {w : World} {p : Nat} {l : List UInt8} (h : Wt B w p l) : Wk B w w p l := ⟨h, Below.refl _ _, fun _ _ _ _ _ h => h⟩
theorem Wk.trans {B : Nat} {w v u : World} {p : Nat} {l k : List UInt8} (h : Wk B w v p l) (h2 : Wk B v u p k) : Wk B w u p k := ⟨h2.wt, h.bel.trans h2.bel, fun T g cs h3 h4 h5 => h2.keep T g cs h3 h4 (h.keep T g cs h3 h4 h5)⟩
theorem Wt.le {B : Nat} {w : World} {p : Nat} {l : List UInt8} (h : Wt B w p l) : B ≤ w.heap.size := by
  obtain ⟨_, _, _, _, _, _, h⟩ := h
  exact h
theorem Wt.on {B : Nat} {w w' : World} {p : Nat} {l : List UInt8} (h : Wt B w p l) (hb : Below w.heap.size w w') : Wt B w' p l := by
  obtain ⟨s, c, n, h1, h2, h3, h4⟩ := h
  exact ⟨s, c, n, h1.on hb, h2.on hb, h3, Nat.le_trans h4 hb.size⟩
theorem Wk.on {B : Nat} {w v v' : World} {p : Nat} {l : List UInt8} (h : Wk B w v p l) (hb : Below v.heap.size v v') : Wk B w v' p l := ⟨h.wt.on hb, h.bel.trans (hb.mono h.wt.le), fun T g cs h1 h2 h3 => (h.keep T g cs h1 h2 h3).on hb⟩
/-- From a world a block ahead. -/
theorem Wk.since {B : Nat} {w v : World} {p : Nat} {l : List UInt8} {o : Obj} (hB : B ≤ w.heap.size) (h : Wk B (w.alloc o) v p l) : Wk B w v p l :=
  ⟨h.wt, (((Below.refl w.heap.size w).alloc (Nat.le_refl _) o).mono hB).trans h.bel, fun T g cs h1 h2 h3 => h.keep T g cs h1 h2 (h3.on ((Below.refl _ _).alloc (Nat.le_refl _) _))⟩
/-- Bytes appended, and the writer told so. -/
theorem Wt.step {B : Nat} {w w1 : World} {p : Nat} {l r : List UInt8} {s s' : Option Addr} {c c' n n' : Nat} {o : Obj} (hr : RowT 45 w p #[.slice s n c]) (hb : By B w s c n l) (bp : B ≤ p) (lt : B ≤ w.heap.size) (h1 : Sg.OL 5 1 B w1 s' c' n' (Bm.cellsOf l ++ Bm.cellsOf r)) (hk : Kept (Sg.At_ s c) (w.alloc o) w1) :
    Wk B w (w1.setCell ⟨p, 0, none⟩ (.slice s' n' c')) p (l ++ r) ∧ w1.frozen? ⟨p, 0, none⟩ = false ∧ w1.cell? ⟨p, 0, none⟩ = some (.slice s n c) := by
  have hal : Below w.heap.size w (w.alloc o) := (Below.refl _ _).alloc (Nat.le_refl _) _
  have hb' := hb.on hal
  have r1 : RowT 45 w1 p #[.slice s n c] := hb'.row hk (hr.on hal) (by decide)
  have hk8 : Kept (fun j => j = p) w1 (w1.setCell ⟨p, 0, none⟩ (.slice s' n' c')) := Kept.set _ _ _ rfl
  have h2 : By B w1 s' c' n' (l ++ r) := By.app h1
  have b1 : Below B w w1 := (hal.mono lt).trans (hb'.below hk (Nat.le_trans lt hal.size))
  refine ⟨⟨⟨s', c', n', r1.set 0 _, h2.kept hk8 (fun g hg e => by subst e; exact h2.ne r1 (by decide) hg), bp, ?_⟩, b1.setCell bp _, fun T g cs t1 t2 h3 => ?_⟩, r1.f 0, r1.c 0 _ rfl⟩
  · exact Nat.le_trans lt (b1.setCell bp _).size
  · have h4 : RowT T w1 g cs := hb'.row hk (h3.on hal) t1
    exact h4.kept hk8 (row_ne h4 r1 t2)
set_option maxRecDepth 100000 in
set_option maxHeartbeats 1000000 in
theorem wr_one (B : Nat) (w : World) (p : Nat) (l : List UInt8) (x : Int) (h : Wt B w p l) (hl : l.length ≤ 1000) : Calls Tryd.prog 21 #[Ob.ptr p, .int .i64 x] w (Wrote B w p (l ++ [Pq.u8 x])) := by
  obtain ⟨s, c, n, hr, hb, bp, lt⟩ := h
  have e1 : IntKind.u8.wrap x = ((Pq.u8 x).toNat : Int) := by rw [Pq.u8_mod, IntKind.wrap_u8]
  generalize Pq.u8 x = b at *
  have hn : n ≤ 1000 := by rw [hb.len]; exact hl
  have HS := Sg.src_new (P := Tryd.prog) Tryd.underlying40 w 5 1 1 [.int .u8 (b.toNat : Int)] rfl (fun u hu => by simp at hu; subst hu; rfl)
  have HB1 : Hid (By B (w.alloc (.cells [.int .u8 (b.toNat : Int)].toArray 5)) s c n l) := hb.on ((Below.refl _ _).alloc (Nat.le_refl _) _)
  have c0 : w.cell? ⟨p, 0, none⟩ = some (.slice s n c) := hr.c 0 _ rfl
  have HG : Hid (∀ w1 s' c' n', Sg.OL 5 1 B w1 s' c' n' (Bm.cellsOf l ++ Bm.cellsOf [b]) → Kept (Sg.At_ s c) (w.alloc (.cells [.int .u8 (b.toNat : Int)].toArray 5)) w1 → Wk B w (w1.setCell ⟨p, 0, none⟩ (.slice s' n' c')) p (l ++ [b]) ∧ w1.frozen? ⟨p, 0, none⟩ = false ∧ w1.cell? ⟨p, 0, none⟩ = some (.slice s n c)) := fun w1 s' c' n' h1 hk => Wt.step hr hb bp lt h1 hk
  clear hr hb hl
  go_enter Tryd.func21, Tryd.ntmps21
  go_wp2_with (refine Sg.wpList_appendO elU8 rfl (.tmp 8) (.tmp 11) 40 rfl rfl rfl HB1.out (by simp; omega) HS (by omega) ?_; intro s' c' n' w' hn h1 hk; clear hn; obtain ⟨ha, hf, hc⟩ := HG.out _ _ _ _ h1 hk; have HA : Hid (Wk B w (w'.setCell ⟨p, 0, none⟩ (.slice s' n' c')) p (l ++ [b])) := ha; clear ha h1 hk)
  go_end0
  exact ⟨rfl, HA.out⟩
set_option maxRecDepth 100000 in
set_option maxHeartbeats 1000000 in
theorem wr_two (B : Nat) (w : World) (p : Nat) (l : List UInt8) (x : Int) (h : Wt B w p l) (hl : l.length ≤ 1000) : Calls Tryd.prog 38 #[Ob.ptr p, .int .i64 x] w (Wrote B w p (l ++ Pq.two x)) := by
  obtain ⟨s, c, n, hr, hb, bp, lt⟩ := h
  have e1 : IntKind.u8.wrap (x / 256) = ((Pq.u8 (x / 256)).toNat : Int) := by rw [Pq.u8_mod, IntKind.wrap_u8]
  have e2 : IntKind.u8.wrap x = ((Pq.u8 x).toNat : Int) := by rw [Pq.u8_mod, IntKind.wrap_u8]
  have HE : Hid (Pq.two x = [Pq.u8 (x / 256), Pq.u8 x]) := rfl
  rw [HE.out]
  clear HE
  generalize Pq.u8 (x / 256) = b at *
  generalize Pq.u8 x = b2 at *
  have hn : n ≤ 1000 := by rw [hb.len]; exact hl
  have HS := Sg.src_new (P := Tryd.prog) Tryd.underlying40 w 5 1 2 [.int .u8 (b.toNat : Int), .int .u8 (b2.toNat : Int)] rfl (fun u hu => by simp at hu; rcases hu with rfl | rfl <;> rfl)
  have HB1 : Hid (By B (w.alloc (.cells [.int .u8 (b.toNat : Int), .int .u8 (b2.toNat : Int)].toArray 5)) s c n l) := hb.on ((Below.refl _ _).alloc (Nat.le_refl _) _)
  have c0 : w.cell? ⟨p, 0, none⟩ = some (.slice s n c) := hr.c 0 _ rfl
  have HG : Hid (∀ w1 s' c' n', Sg.OL 5 1 B w1 s' c' n' (Bm.cellsOf l ++ Bm.cellsOf [b, b2]) → Kept (Sg.At_ s c) (w.alloc (.cells [.int .u8 (b.toNat : Int), .int .u8 (b2.toNat : Int)].toArray 5)) w1 → Wk B w (w1.setCell ⟨p, 0, none⟩ (.slice s' n' c')) p (l ++ [b, b2]) ∧ w1.frozen? ⟨p, 0, none⟩ = false ∧ w1.cell? ⟨p, 0, none⟩ = some (.slice s n c)) := fun w1 s' c' n' h1 hk => Wt.step hr hb bp lt h1 hk
  clear hr hb hl
  have hsh : x >>> 8 = x / 256 := by rw [Int.shiftRight_eq_div_pow]; rfl
  go_enter Tryd.func38, Tryd.ntmps38
  go_wp2_with (refine Sg.wpList_appendO elU8 rfl (.tmp 8) (.tmp 14) 40 rfl rfl rfl HB1.out (by simp; omega) HS (by omega) ?_; intro s' c' n' w' hn h1 hk; clear hn; obtain ⟨ha, hf, hc⟩ := HG.out _ _ _ _ h1 hk; have HA : Hid (Wk B w (w'.setCell ⟨p, 0, none⟩ (.slice s' n' c')) p (l ++ [b, b2])) := ha; clear ha h1 hk)
  go_end0
  exact ⟨rfl, HA.out⟩
set_option maxRecDepth 100000 in
set_option maxHeartbeats 1000000 in
theorem wr_flag (B : Nat) (w : World) (p : Nat) (l : List UInt8) (x : Bool) (h : Wt B w p l) (hl : l.length ≤ 1000) : Calls Tryd.prog 39 #[Ob.ptr p, .bool x] w (Wrote B w p (l ++ [if x then 1 else 0])) := by
  have H1 := wr_one B w p l 1 h hl
  have H0 := wr_one B w p l 0 h hl
  have E1 : Hid (Pq.u8 1 = 1) := rfl
  have E0 : Hid (Pq.u8 0 = 0) := rfl
  rw [E1.out] at H1
  rw [E0.out] at H0
  clear E1 E0 h hl
  cases x
  · clear H1
    have E : Hid ((if false = true then (1 : UInt8) else 0) = 0) := rfl
    rw [E.out]
    clear E
    go_enter Tryd.func39, Tryd.ntmps39
    go_wp2_with fail
    refine H0.mono ?_
    rintro e w1 ⟨rfl, hk⟩
    have HK : Hid (Wk B w w1 p (l ++ [0])) := hk
    clear hk H0
    go_wp2
    go_end0
    exact ⟨rfl, HK.out⟩
  · clear H0
    have E : Hid ((if true = true then (1 : UInt8) else 0) = 1) := rfl
    rw [E.out]
    clear E
    go_enter Tryd.func39, Tryd.ntmps39
    go_wp2_with fail
    refine H1.mono ?_
    rintro e w1 ⟨rfl, hk⟩
    have HK : Hid (Wk B w w1 p (l ++ [1])) := hk
    clear hk H1
    go_wp2
    go_end0
    exact ⟨rfl, HK.out⟩
set_option maxRecDepth 100000 in
set_option maxHeartbeats 2000000 in
theorem wr_message (B : Nat) (w : World) (p : Nat) (l : List UInt8) (x : Mx.Msg) (hx : x.id < 4294967296) (h : Wt B w p l) (hl : l.length ≤ 900) : Calls Tryd.prog 22 #[Ob.ptr p, .agg (mC2 x).toArray] w (Wrote B w p (l ++ Pq.mes x)) := by
  have H1 : Hid (∀ (w : World) (l : List UInt8) (x : Int), Wt B w p l → l.length ≤ 1000 → Calls Tryd.prog 21 #[Ob.ptr p, .int .i64 x] w (Wrote B w p (l ++ [Pq.u8 x]))) := fun w l x => wr_one B w p l x
  have H2 : Hid (∀ (w : World) (l : List UInt8) (x : Int), Wt B w p l → l.length ≤ 1000 → Calls Tryd.prog 38 #[Ob.ptr p, .int .i64 x] w (Wrote B w p (l ++ Pq.two x))) := fun w l x => wr_two B w p l x
  have H3 : Hid (∀ (w : World) (l : List UInt8) (x : Bool), Wt B w p l → l.length ≤ 1000 → Calls Tryd.prog 39 #[Ob.ptr p, .bool x] w (Wrote B w p (l ++ [if x then 1 else 0]))) := fun w l x => wr_flag B w p l x
  have eu : IntKind.i64.wrap (x.id : Int) = (x.id : Int) := by rw [IntKind.wrap_i64]; omega
  have HB : Hid (B ≤ w.heap.size) := h.le
  have HR : Hid (RowT 49 (w.alloc (.cells #[.int .u32 (x.id : Int), .int .i64 x.owner, .bool x.event] 49)) w.heap.size #[.int .u32 (x.id : Int), .int .i64 x.owner, .bool x.event]) := RowT.new _ _ _
  have HK0 : Hid (Wk B (w.alloc (.cells #[.int .u32 (x.id : Int), .int .i64 x.owner, .bool x.event] 49)) (w.alloc (.cells #[.int .u32 (x.id : Int), .int .i64 x.owner, .bool x.event] 49)) p l) := Wk.refl (h.on ((Below.refl _ _).alloc (Nat.le_refl _) _))
  have HC0 : Hid (∀ v l, Wk B (w.alloc (.cells #[.int .u32 (x.id : Int), .int .i64 x.owner, .bool x.event] 49)) v p l → v.cell? ⟨w.heap.size, 0, none⟩ = some (.int .u32 (x.id : Int)) ∧ v.cell? ⟨w.heap.size, 1, none⟩ = some (.int .i64 x.owner) ∧ v.cell? ⟨w.heap.size, 2, none⟩ = some (.bool x.event)) := fun v l hk => by
    have hr := hk.keep _ _ _ (by decide) (by decide) HR.out
    exact ⟨hr.c 0 _ rfl, hr.c 1 _ rfl, hr.c 2 _ rfl⟩
  have HL0 : Hid (l.length ≤ 900) := hl
  clear h hl HR
  show Calls _ _ #[Ob.ptr p, .agg #[.int .u32 (x.id : Int), .int .i64 x.owner, .bool x.event]] _ _
  obtain ⟨d0, d1, d2⟩ := HC0.out _ _ HK0.out
  go_enter Tryd.func22, Tryd.ntmps22
  go_wp2_with fail
  clear d0 d1 d2
  refine (H2.out _ l (x.id : Int) HK0.out.wt (Nat.le_trans HL0.out (by decide))).mono ?_
  rintro e v1 ⟨rfl, hk⟩
  obtain ⟨l1, hl1⟩ : ∃ z, l ++ Pq.two (x.id : Int) = z := ⟨_, rfl⟩
  have HE1 : Hid (l ++ Pq.two (x.id : Int) = l1) := hl1
  rw [hl1] at hk
  have HL1 : Hid (l1.length ≤ 902) := by show _ ≤ _; rw [← hl1, List.length_append]; exact Nat.add_le_add HL0.out (Nat.le_refl _)
  have HK1 : Hid (Wk B (w.alloc (.cells #[.int .u32 (x.id : Int), .int .i64 x.owner, .bool x.event] 49)) v1 p l1) := HK0.out.trans hk
  clear hk hl1 HL0 HK0
  obtain ⟨d0, d1, d2⟩ := HC0.out _ _ HK1.out
  go_wp2_with fail
  clear d0 d1 d2
  refine (H1.out _ l1 x.owner HK1.out.wt (Nat.le_trans HL1.out (by decide))).mono ?_
  rintro e v2 ⟨rfl, hk⟩
  obtain ⟨l2, hl2⟩ : ∃ z, l1 ++ [Pq.u8 x.owner] = z := ⟨_, rfl⟩
  have HE2 : Hid (l1 ++ [Pq.u8 x.owner] = l2) := hl2
  rw [hl2] at hk
  have HL2 : Hid (l2.length ≤ 903) := by show _ ≤ _; rw [← hl2, List.length_append]; exact Nat.add_le_add HL1.out (Nat.le_refl _)
  have HK2 : Hid (Wk B (w.alloc (.cells #[.int .u32 (x.id : Int), .int .i64 x.owner, .bool x.event] 49)) v2 p l2) := HK1.out.trans hk
  clear hk hl2 HL1 HK1
  obtain ⟨d0, d1, d2⟩ := HC0.out _ _ HK2.out
  go_wp2_with fail
  clear d0 d1 d2
  refine (H3.out _ l2 x.event HK2.out.wt (Nat.le_trans HL2.out (by decide))).mono ?_
  rintro e v3 ⟨rfl, hk⟩
  obtain ⟨l3, hl3⟩ : ∃ z, l2 ++ [if x.event then 1 else 0] = z := ⟨_, rfl⟩
  have HE3 : Hid (l2 ++ [if x.event then 1 else 0] = l3) := hl3
  rw [hl3] at hk
  have HL3 : Hid (l3.length ≤ 904) := by show _ ≤ _; rw [← hl3, List.length_append]; exact Nat.add_le_add HL2.out (Nat.le_refl _)
  have HK3 : Hid (Wk B (w.alloc (.cells #[.int .u32 (x.id : Int), .int .i64 x.owner, .bool x.event] 49)) v3 p l3) := HK2.out.trans hk
  clear hk hl3 HL2 HK2
  go_wp2
  go_end0
  refine ⟨rfl, ?_⟩
  have : l3 = l ++ Pq.mes x := by
    rw [← HE3.out, ← HE2.out, ← HE1.out]
    simp only [List.append_assoc]
    rfl
  rw [← this]
  exact Wk.since HB.out HK3.out
set_option maxRecDepth 100000 in
set_option maxHeartbeats 2000000 in
theorem wr_window (B : Nat) (w : World) (p : Nat) (l : List UInt8) (x : Mx.Win) (h : Wt B w p l) (hl : l.length ≤ 900) : Calls Tryd.prog 23 #[Ob.ptr p, .agg (mC3 x).toArray] w (Wrote B w p (l ++ Pq.win x)) := by
  have H1 : Hid (∀ (w : World) (l : List UInt8) (x : Int), Wt B w p l → l.length ≤ 1000 → Calls Tryd.prog 21 #[Ob.ptr p, .int .i64 x] w (Wrote B w p (l ++ [Pq.u8 x]))) := fun w l x => wr_one B w p l x
  have H2 : Hid (∀ (w : World) (l : List UInt8) (x : Int), Wt B w p l → l.length ≤ 1000 → Calls Tryd.prog 38 #[Ob.ptr p, .int .i64 x] w (Wrote B w p (l ++ Pq.two x))) := fun w l x => wr_two B w p l x
  have HB : Hid (B ≤ w.heap.size) := h.le
  have HR : Hid (RowT 52 (w.alloc (.cells #[.int .i64 x.kind, .int .i64 x.start, .int .i64 x.fin, .int .i64 x.cycle, .int .i64 x.rep, .int .i64 x.msg] 52)) w.heap.size #[.int .i64 x.kind, .int .i64 x.start, .int .i64 x.fin, .int .i64 x.cycle, .int .i64 x.rep, .int .i64 x.msg]) := RowT.new _ _ _
  have HK0 : Hid (Wk B (w.alloc (.cells #[.int .i64 x.kind, .int .i64 x.start, .int .i64 x.fin, .int .i64 x.cycle, .int .i64 x.rep, .int .i64 x.msg] 52)) (w.alloc (.cells #[.int .i64 x.kind, .int .i64 x.start, .int .i64 x.fin, .int .i64 x.cycle, .int .i64 x.rep, .int .i64 x.msg] 52)) p l) := Wk.refl (h.on ((Below.refl _ _).alloc (Nat.le_refl _) _))
  have HC0 : Hid (∀ v l, Wk B (w.alloc (.cells #[.int .i64 x.kind, .int .i64 x.start, .int .i64 x.fin, .int .i64 x.cycle, .int .i64 x.rep, .int .i64 x.msg] 52)) v p l → v.cell? ⟨w.heap.size, 0, none⟩ = some (.int .i64 x.kind) ∧ v.cell? ⟨w.heap.size, 1, none⟩ = some (.int .i64 x.start) ∧ v.cell? ⟨w.heap.size, 2, none⟩ = some (.int .i64 x.fin) ∧ v.cell? ⟨w.heap.size, 3, none⟩ = some (.int .i64 x.cycle) ∧ v.cell? ⟨w.heap.size, 4, none⟩ = some (.int .i64 x.rep) ∧ v.cell? ⟨w.heap.size, 5, none⟩ = some (.int .i64 x.msg)) := fun v l hk => by
    have hr := hk.keep _ _ _ (by decide) (by decide) HR.out
    exact ⟨hr.c 0 _ rfl, hr.c 1 _ rfl, hr.c 2 _ rfl, hr.c 3 _ rfl, hr.c 4 _ rfl, hr.c 5 _ rfl⟩
  have HL0 : Hid (l.length ≤ 900) := hl
  clear h hl HR
  show Calls _ _ #[Ob.ptr p, .agg #[.int .i64 x.kind, .int .i64 x.start, .int .i64 x.fin, .int .i64 x.cycle, .int .i64 x.rep, .int .i64 x.msg]] _ _
  obtain ⟨d0, d1, d2, d3, d4, d5⟩ := HC0.out _ _ HK0.out
  go_enter Tryd.func23, Tryd.ntmps23
  go_wp2_with fail
  clear d0 d1 d2 d3 d4 d5
  refine (H1.out _ l x.kind HK0.out.wt (Nat.le_trans HL0.out (by decide))).mono ?_
  rintro e v1 ⟨rfl, hk⟩
  obtain ⟨l1, hl1⟩ : ∃ z, l ++ [Pq.u8 x.kind] = z := ⟨_, rfl⟩
  have HE1 : Hid (l ++ [Pq.u8 x.kind] = l1) := hl1
  rw [hl1] at hk
  have HL1 : Hid (l1.length ≤ 901) := by show _ ≤ _; rw [← hl1, List.length_append]; exact Nat.add_le_add HL0.out (Nat.le_refl _)
  have HK1 : Hid (Wk B (w.alloc (.cells #[.int .i64 x.kind, .int .i64 x.start, .int .i64 x.fin, .int .i64 x.cycle, .int .i64 x.rep, .int .i64 x.msg] 52)) v1 p l1) := HK0.out.trans hk
  clear hk hl1 HL0 HK0
  obtain ⟨d0, d1, d2, d3, d4, d5⟩ := HC0.out _ _ HK1.out
  go_wp2_with fail
  clear d0 d1 d2 d3 d4 d5
  refine (H2.out _ l1 x.start HK1.out.wt (Nat.le_trans HL1.out (by decide))).mono ?_
  rintro e v2 ⟨rfl, hk⟩
  obtain ⟨l2, hl2⟩ : ∃ z, l1 ++ Pq.two x.start = z := ⟨_, rfl⟩
  have HE2 : Hid (l1 ++ Pq.two x.start = l2) := hl2
  rw [hl2] at hk
  have HL2 : Hid (l2.length ≤ 903) := by show _ ≤ _; rw [← hl2, List.length_append]; exact Nat.add_le_add HL1.out (Nat.le_refl _)
  have HK2 : Hid (Wk B (w.alloc (.cells #[.int .i64 x.kind, .int .i64 x.start, .int .i64 x.fin, .int .i64 x.cycle, .int .i64 x.rep, .int .i64 x.msg] 52)) v2 p l2) := HK1.out.trans hk
  clear hk hl2 HL1 HK1
  obtain ⟨d0, d1, d2, d3, d4, d5⟩ := HC0.out _ _ HK2.out
  go_wp2_with fail
  clear d0 d1 d2 d3 d4 d5
  refine (H2.out _ l2 x.fin HK2.out.wt (Nat.le_trans HL2.out (by decide))).mono ?_
  rintro e v3 ⟨rfl, hk⟩
  obtain ⟨l3, hl3⟩ : ∃ z, l2 ++ Pq.two x.fin = z := ⟨_, rfl⟩
  have HE3 : Hid (l2 ++ Pq.two x.fin = l3) := hl3
  rw [hl3] at hk
  have HL3 : Hid (l3.length ≤ 905) := by show _ ≤ _; rw [← hl3, List.length_append]; exact Nat.add_le_add HL2.out (Nat.le_refl _)
  have HK3 : Hid (Wk B (w.alloc (.cells #[.int .i64 x.kind, .int .i64 x.start, .int .i64 x.fin, .int .i64 x.cycle, .int .i64 x.rep, .int .i64 x.msg] 52)) v3 p l3) := HK2.out.trans hk
  clear hk hl3 HL2 HK2
  obtain ⟨d0, d1, d2, d3, d4, d5⟩ := HC0.out _ _ HK3.out
  go_wp2_with fail
  clear d0 d1 d2 d3 d4 d5
  refine (H1.out _ l3 x.cycle HK3.out.wt (Nat.le_trans HL3.out (by decide))).mono ?_
  rintro e v4 ⟨rfl, hk⟩
  obtain ⟨l4, hl4⟩ : ∃ z, l3 ++ [Pq.u8 x.cycle] = z := ⟨_, rfl⟩
  have HE4 : Hid (l3 ++ [Pq.u8 x.cycle] = l4) := hl4
  rw [hl4] at hk
  have HL4 : Hid (l4.length ≤ 906) := by show _ ≤ _; rw [← hl4, List.length_append]; exact Nat.add_le_add HL3.out (Nat.le_refl _)
  have HK4 : Hid (Wk B (w.alloc (.cells #[.int .i64 x.kind, .int .i64 x.start, .int .i64 x.fin, .int .i64 x.cycle, .int .i64 x.rep, .int .i64 x.msg] 52)) v4 p l4) := HK3.out.trans hk
  clear hk hl4 HL3 HK3
  obtain ⟨d0, d1, d2, d3, d4, d5⟩ := HC0.out _ _ HK4.out
  go_wp2_with fail
  clear d0 d1 d2 d3 d4 d5
  refine (H1.out _ l4 x.rep HK4.out.wt (Nat.le_trans HL4.out (by decide))).mono ?_
  rintro e v5 ⟨rfl, hk⟩
  obtain ⟨l5, hl5⟩ : ∃ z, l4 ++ [Pq.u8 x.rep] = z := ⟨_, rfl⟩
  have HE5 : Hid (l4 ++ [Pq.u8 x.rep] = l5) := hl5
  rw [hl5] at hk
  have HL5 : Hid (l5.length ≤ 907) := by show _ ≤ _; rw [← hl5, List.length_append]; exact Nat.add_le_add HL4.out (Nat.le_refl _)
  have HK5 : Hid (Wk B (w.alloc (.cells #[.int .i64 x.kind, .int .i64 x.start, .int .i64 x.fin, .int .i64 x.cycle, .int .i64 x.rep, .int .i64 x.msg] 52)) v5 p l5) := HK4.out.trans hk
  clear hk hl5 HL4 HK4
  obtain ⟨d0, d1, d2, d3, d4, d5⟩ := HC0.out _ _ HK5.out
  go_wp2_with fail
  clear d0 d1 d2 d3 d4 d5
  refine (H1.out _ l5 x.msg HK5.out.wt (Nat.le_trans HL5.out (by decide))).mono ?_
  rintro e v6 ⟨rfl, hk⟩
  obtain ⟨l6, hl6⟩ : ∃ z, l5 ++ [Pq.u8 x.msg] = z := ⟨_, rfl⟩
  have HE6 : Hid (l5 ++ [Pq.u8 x.msg] = l6) := hl6
  rw [hl6] at hk
  have HL6 : Hid (l6.length ≤ 908) := by show _ ≤ _; rw [← hl6, List.length_append]; exact Nat.add_le_add HL5.out (Nat.le_refl _)
  have HK6 : Hid (Wk B (w.alloc (.cells #[.int .i64 x.kind, .int .i64 x.start, .int .i64 x.fin, .int .i64 x.cycle, .int .i64 x.rep, .int .i64 x.msg] 52)) v6 p l6) := HK5.out.trans hk
  clear hk hl6 HL5 HK5
  go_wp2
  go_end0
  refine ⟨rfl, ?_⟩
  have : l6 = l ++ Pq.win x := by
    rw [← HE6.out, ← HE5.out, ← HE4.out, ← HE3.out, ← HE2.out, ← HE1.out]
    simp only [List.append_assoc]
    rfl
  rw [← this]
  exact Wk.since HB.out HK6.out
set_option maxRecDepth 100000 in
set_option maxHeartbeats 2000000 in
theorem wr_head (B : Nat) (w : World) (p : Nat) (l : List UInt8) (m : Mx.M) (a : Ma) (hx : m.ref < 4294967296) (h : Wt B w p l) (hl : l.length ≤ 900) : Calls Tryd.prog 20 #[Ob.ptr p, mV m a] w (Wrote B w p (l ++ Pq.front m)) := by
  have H1 : Hid (∀ (w : World) (l : List UInt8) (x : Int), Wt B w p l → l.length ≤ 1000 → Calls Tryd.prog 21 #[Ob.ptr p, .int .i64 x] w (Wrote B w p (l ++ [Pq.u8 x]))) := fun w l x => wr_one B w p l x
  have H2 : Hid (∀ (w : World) (l : List UInt8) (x : Int), Wt B w p l → l.length ≤ 1000 → Calls Tryd.prog 38 #[Ob.ptr p, .int .i64 x] w (Wrote B w p (l ++ Pq.two x))) := fun w l x => wr_two B w p l x
  have eu : IntKind.i64.wrap (m.ref : Int) = (m.ref : Int) := by rw [IntKind.wrap_i64]; omega
  have HB : Hid (B ≤ w.heap.size) := h.le
  have HR : Hid (RowT 27 (w.alloc (.cells (mCs m a) 27)) w.heap.size (mCs m a)) := RowT.new _ _ _
  have HK0 : Hid (Wk B (w.alloc (.cells (mCs m a) 27)) (w.alloc (.cells (mCs m a) 27)) p l) := Wk.refl (h.on ((Below.refl _ _).alloc (Nat.le_refl _) _))
  have HC0 : Hid (∀ v l, Wk B (w.alloc (.cells (mCs m a) 27)) v p l → v.cell? ⟨w.heap.size, 0, none⟩ = some (.int .i64 m.level) ∧ v.cell? ⟨w.heap.size, 1, none⟩ = some (.int .i64 m.nodes) ∧ v.cell? ⟨w.heap.size, 2, none⟩ = some (.int .i64 m.cycles) ∧ v.cell? ⟨w.heap.size, 3, none⟩ = some (.int .i64 m.length) ∧ v.cell? ⟨w.heap.size, 4, none⟩ = some (.int .i64 m.enable) ∧ v.cell? ⟨w.heap.size, 5, none⟩ = some (.int .i64 m.unit) ∧ v.cell? ⟨w.heap.size, 6, none⟩ = some (.int .i64 m.init) ∧ v.cell? ⟨w.heap.size, 7, none⟩ = some (.int .u32 (m.ref : Int))) := fun v l hk => by
    have hr := hk.keep _ _ _ (by decide) (by decide) HR.out
    exact ⟨hr.c 0 _ rfl, hr.c 1 _ rfl, hr.c 2 _ rfl, hr.c 3 _ rfl, hr.c 4 _ rfl, hr.c 5 _ rfl, hr.c 6 _ rfl, hr.c 7 _ rfl⟩
  have HL0 : Hid (l.length ≤ 900) := hl
  clear h hl HR
  show Calls _ _ #[Ob.ptr p, .agg (mCs m a)] _ _
  obtain ⟨d0, d1, d2, d3, d4, d5, d6, d7⟩ := HC0.out _ _ HK0.out
  go_enter Tryd.func20, Tryd.ntmps20
  go_wp2_with fail
  clear d0 d1 d2 d3 d4 d5 d6 d7
  refine (H1.out _ l 79 HK0.out.wt (Nat.le_trans HL0.out (by decide))).mono ?_
  rintro e v1 ⟨rfl, hk⟩
  obtain ⟨l1, hl1⟩ : ∃ z, l ++ [Pq.u8 79] = z := ⟨_, rfl⟩
  have HE1 : Hid (l ++ [Pq.u8 79] = l1) := hl1
  rw [hl1] at hk
  have HL1 : Hid (l1.length ≤ 901) := by show _ ≤ _; rw [← hl1, List.length_append]; exact Nat.add_le_add HL0.out (Nat.le_refl _)
  have HK1 : Hid (Wk B (w.alloc (.cells (mCs m a) 27)) v1 p l1) := HK0.out.trans hk
  clear hk hl1 HL0 HK0
  obtain ⟨d0, d1, d2, d3, d4, d5, d6, d7⟩ := HC0.out _ _ HK1.out
  go_wp2_with fail
  clear d0 d1 d2 d3 d4 d5 d6 d7
  refine (H1.out _ l1 m.level HK1.out.wt (Nat.le_trans HL1.out (by decide))).mono ?_
  rintro e v2 ⟨rfl, hk⟩
  obtain ⟨l2, hl2⟩ : ∃ z, l1 ++ [Pq.u8 m.level] = z := ⟨_, rfl⟩
  have HE2 : Hid (l1 ++ [Pq.u8 m.level] = l2) := hl2
  rw [hl2] at hk
  have HL2 : Hid (l2.length ≤ 902) := by show _ ≤ _; rw [← hl2, List.length_append]; exact Nat.add_le_add HL1.out (Nat.le_refl _)
  have HK2 : Hid (Wk B (w.alloc (.cells (mCs m a) 27)) v2 p l2) := HK1.out.trans hk
  clear hk hl2 HL1 HK1
  obtain ⟨d0, d1, d2, d3, d4, d5, d6, d7⟩ := HC0.out _ _ HK2.out
  go_wp2_with fail
  clear d0 d1 d2 d3 d4 d5 d6 d7
  refine (H1.out _ l2 m.nodes HK2.out.wt (Nat.le_trans HL2.out (by decide))).mono ?_
  rintro e v3 ⟨rfl, hk⟩
  obtain ⟨l3, hl3⟩ : ∃ z, l2 ++ [Pq.u8 m.nodes] = z := ⟨_, rfl⟩
  have HE3 : Hid (l2 ++ [Pq.u8 m.nodes] = l3) := hl3
  rw [hl3] at hk
  have HL3 : Hid (l3.length ≤ 903) := by show _ ≤ _; rw [← hl3, List.length_append]; exact Nat.add_le_add HL2.out (Nat.le_refl _)
  have HK3 : Hid (Wk B (w.alloc (.cells (mCs m a) 27)) v3 p l3) := HK2.out.trans hk
  clear hk hl3 HL2 HK2
  obtain ⟨d0, d1, d2, d3, d4, d5, d6, d7⟩ := HC0.out _ _ HK3.out
  go_wp2_with fail
  clear d0 d1 d2 d3 d4 d5 d6 d7
  refine (H1.out _ l3 m.cycles HK3.out.wt (Nat.le_trans HL3.out (by decide))).mono ?_
  rintro e v4 ⟨rfl, hk⟩
  obtain ⟨l4, hl4⟩ : ∃ z, l3 ++ [Pq.u8 m.cycles] = z := ⟨_, rfl⟩
  have HE4 : Hid (l3 ++ [Pq.u8 m.cycles] = l4) := hl4
  rw [hl4] at hk
  have HL4 : Hid (l4.length ≤ 904) := by show _ ≤ _; rw [← hl4, List.length_append]; exact Nat.add_le_add HL3.out (Nat.le_refl _)
  have HK4 : Hid (Wk B (w.alloc (.cells (mCs m a) 27)) v4 p l4) := HK3.out.trans hk
  clear hk hl4 HL3 HK3
  obtain ⟨d0, d1, d2, d3, d4, d5, d6, d7⟩ := HC0.out _ _ HK4.out
  go_wp2_with fail
  clear d0 d1 d2 d3 d4 d5 d6 d7
  refine (H2.out _ l4 m.length HK4.out.wt (Nat.le_trans HL4.out (by decide))).mono ?_
  rintro e v5 ⟨rfl, hk⟩
  obtain ⟨l5, hl5⟩ : ∃ z, l4 ++ Pq.two m.length = z := ⟨_, rfl⟩
  have HE5 : Hid (l4 ++ Pq.two m.length = l5) := hl5
  rw [hl5] at hk
  have HL5 : Hid (l5.length ≤ 906) := by show _ ≤ _; rw [← hl5, List.length_append]; exact Nat.add_le_add HL4.out (Nat.le_refl _)
  have HK5 : Hid (Wk B (w.alloc (.cells (mCs m a) 27)) v5 p l5) := HK4.out.trans hk
  clear hk hl5 HL4 HK4
  obtain ⟨d0, d1, d2, d3, d4, d5, d6, d7⟩ := HC0.out _ _ HK5.out
  go_wp2_with fail
  clear d0 d1 d2 d3 d4 d5 d6 d7
  refine (H1.out _ l5 m.enable HK5.out.wt (Nat.le_trans HL5.out (by decide))).mono ?_
  rintro e v6 ⟨rfl, hk⟩
  obtain ⟨l6, hl6⟩ : ∃ z, l5 ++ [Pq.u8 m.enable] = z := ⟨_, rfl⟩
  have HE6 : Hid (l5 ++ [Pq.u8 m.enable] = l6) := hl6
  rw [hl6] at hk
  have HL6 : Hid (l6.length ≤ 907) := by show _ ≤ _; rw [← hl6, List.length_append]; exact Nat.add_le_add HL5.out (Nat.le_refl _)
  have HK6 : Hid (Wk B (w.alloc (.cells (mCs m a) 27)) v6 p l6) := HK5.out.trans hk
  clear hk hl6 HL5 HK5
  obtain ⟨d0, d1, d2, d3, d4, d5, d6, d7⟩ := HC0.out _ _ HK6.out
  go_wp2_with fail
  clear d0 d1 d2 d3 d4 d5 d6 d7
  refine (H1.out _ l6 m.unit HK6.out.wt (Nat.le_trans HL6.out (by decide))).mono ?_
  rintro e v7 ⟨rfl, hk⟩
  obtain ⟨l7, hl7⟩ : ∃ z, l6 ++ [Pq.u8 m.unit] = z := ⟨_, rfl⟩
  have HE7 : Hid (l6 ++ [Pq.u8 m.unit] = l7) := hl7
  rw [hl7] at hk
  have HL7 : Hid (l7.length ≤ 908) := by show _ ≤ _; rw [← hl7, List.length_append]; exact Nat.add_le_add HL6.out (Nat.le_refl _)
  have HK7 : Hid (Wk B (w.alloc (.cells (mCs m a) 27)) v7 p l7) := HK6.out.trans hk
  clear hk hl7 HL6 HK6
  obtain ⟨d0, d1, d2, d3, d4, d5, d6, d7⟩ := HC0.out _ _ HK7.out
  go_wp2_with fail
  clear d0 d1 d2 d3 d4 d5 d6 d7
  refine (H2.out _ l7 m.init HK7.out.wt (Nat.le_trans HL7.out (by decide))).mono ?_
  rintro e v8 ⟨rfl, hk⟩
  obtain ⟨l8, hl8⟩ : ∃ z, l7 ++ Pq.two m.init = z := ⟨_, rfl⟩
  have HE8 : Hid (l7 ++ Pq.two m.init = l8) := hl8
  rw [hl8] at hk
  have HL8 : Hid (l8.length ≤ 910) := by show _ ≤ _; rw [← hl8, List.length_append]; exact Nat.add_le_add HL7.out (Nat.le_refl _)
  have HK8 : Hid (Wk B (w.alloc (.cells (mCs m a) 27)) v8 p l8) := HK7.out.trans hk
  clear hk hl8 HL7 HK7
  obtain ⟨d0, d1, d2, d3, d4, d5, d6, d7⟩ := HC0.out _ _ HK8.out
  go_wp2_with fail
  clear d0 d1 d2 d3 d4 d5 d6 d7
  refine (H2.out _ l8 (m.ref : Int) HK8.out.wt (Nat.le_trans HL8.out (by decide))).mono ?_
  rintro e v9 ⟨rfl, hk⟩
  obtain ⟨l9, hl9⟩ : ∃ z, l8 ++ Pq.two (m.ref : Int) = z := ⟨_, rfl⟩
  have HE9 : Hid (l8 ++ Pq.two (m.ref : Int) = l9) := hl9
  rw [hl9] at hk
  have HL9 : Hid (l9.length ≤ 912) := by show _ ≤ _; rw [← hl9, List.length_append]; exact Nat.add_le_add HL8.out (Nat.le_refl _)
  have HK9 : Hid (Wk B (w.alloc (.cells (mCs m a) 27)) v9 p l9) := HK8.out.trans hk
  clear hk hl9 HL8 HK8
  go_wp2
  go_end0
  refine ⟨rfl, ?_⟩
  have : l9 = l ++ Pq.front m := by
    rw [← HE9.out, ← HE8.out, ← HE7.out, ← HE6.out, ← HE5.out, ← HE4.out, ← HE3.out, ← HE2.out, ← HE1.out]
    simp only [List.append_assoc]
    rfl
  rw [← this]
  exact Wk.since HB.out HK9.out
end Go.Proofs.YtcdalfhmmipiaaaDoor
