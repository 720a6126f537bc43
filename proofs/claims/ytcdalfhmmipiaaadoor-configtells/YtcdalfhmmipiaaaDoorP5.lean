/- Layer 13: the document's Parse. -/
import Derived.Test.YtcdalfhmmipiaaaDoorP4
import Derived.Test.YtcdalfhmmipiaaaDoorBc
import Derived.Test.YtcdalfhmmipiaaaDoorHl
import Derived.Deep.CutBlock
namespace Go.Proofs.YtcdalfhmmipiaaaDoor
open Go.RowKit Go.WideShapes
set_option linter.unusedVariables false
/-- What is told of bytes: the matrix whose they are, or that there is none. -/
def Told13 (b : List UInt8) (e : Ending) (w' : World) : Prop :=
  (∃ m a, Pq.Of b m ∧ e = .returned (.tuple #[mV m a, .bool true]) ∧ MIn w' m a) ∨ ((∀ m, ¬ Pq.Of b m) ∧ e = .returned (.tuple #[mV Mx.nil0 Ma.nil0, .bool false]))
theorem of_front {b : List UInt8} {m : Mx.M} (h : Pq.Of b m) : 1 ≤ b.length ∧ b.length ≤ 195 ∧ ∃ t, b = 79 :: t := by
  obtain ⟨h1, rfl⟩ := h
  have h2 := Pq.pr_len_le m
  rw [Pq.pr_is h1] at h2 ⊢
  exact ⟨by rw [Pq.laid_len]; omega, h2, _, rfl⟩
theorem of_read {t : List UInt8} {m : Mx.M} (h : Pq.Of (79 :: t) m) : Pq.rM ⟨t, false⟩ = (m, ⟨[], false⟩) := by
  obtain ⟨h1, h2⟩ := h
  rw [Pq.pr_is h1] at h2
  have := Pq.read_laid (Pq.num_of h1) []
  rw [h2, List.append_nil] at this
  exact this
/-- What the reader has read is the matrix, if its bytes are these; else there is none. -/
theorem of_end {t : List UInt8} {m : Mx.M} {r : Pq.R} (h : Pq.rM ⟨t, false⟩ = (m, r)) : (r.bad = true → ∀ n, ¬ Pq.Of (79 :: t) n) ∧ (Pq.pr m ≠ 79 :: t → ∀ n, ¬ Pq.Of (79 :: t) n) ∧ (Pq.pr m = 79 :: t → Pq.Of (79 :: t) m) := by
  refine ⟨fun hb n hn => ?_, fun hp n hn => ?_, fun hp => ?_⟩
  · have := of_read hn
    rw [h] at this
    injection this with _ e
    rw [e] at hb
    cases hb
  · have := of_read hn
    rw [h] at this
    injection this with e _
    rw [e] at hp
    exact hp hn.2
  · refine ⟨?_, hp⟩
    cases hi : Mx.is m
    · rw [Pq.pr_no hi] at hp; cases hp
    · rfl
theorem elInt : Sg.El Tryd.prog 23 3 1 (.int .i64 0) 8 := ⟨Tryd.underlying23, by kernel_rfl, rfl, by decide⟩
theorem elMsg : Sg.El Tryd.prog 24 49 3 (.agg #[.int .u32 0, .int .i64 0, .bool false]) 24 := ⟨Tryd.underlying24, by kernel_rfl, rfl, by decide⟩
theorem elWin : Sg.El Tryd.prog 25 52 6 (.agg #[.int .i64 0, .int .i64 0, .int .i64 0, .int .i64 0, .int .i64 0, .int .i64 0]) 48 := ⟨Tryd.underlying25, by kernel_rfl, rfl, by decide⟩
/-- Beside a window in the making. -/
structure PsV (W w : World) (p2 pm pq : Nat) (r : Pq.R) (m : Mx.M) (a : Ma) (g : Nat) (vs : Array Value) : Prop where
  ps : Ps W w p2 pm pq r m a
  row : RowT 52 w g vs
  ne : ∀ j, Sg.At_ a.s3 a.c3 j → j ≠ g
  bg : W.heap.size ≤ g
theorem PsV.new {W w : World} {p2 pm pq : Nat} {r : Pq.R} {m : Mx.M} {a : Ma} (h : Ps W w p2 pm pq r m a) (vs : Array Value) : PsV W (w.alloc (.cells vs 52)) p2 pm pq r m a w.heap.size vs :=
  ⟨h.al _, RowT.new _ _ _, fun j hj => by have := h.o3.lt j hj; omega, h.bel.size⟩
theorem PsV.rd {W w w' : World} {p2 pm pq : Nat} {r r' : Pq.R} {m : Mx.M} {a : Ma} {g : Nat} {vs : Array Value} (h : PsV W w p2 pm pq r m a g vs) (hr : RowT 60 w' pq (rC r')) (hk : Kept (fun j => j = pq) w w') : PsV W w' p2 pm pq r' m a g vs :=
  ⟨h.ps.rd hr hk, h.row.kept hk (row_ne h.row h.ps.rr (by decide)), h.ne, h.bg⟩
theorem PsV.set {W w : World} {p2 pm pq : Nat} {r : Pq.R} {m : Mx.M} {a : Ma} {g : Nat} {vs : Array Value} (h : PsV W w p2 pm pq r m a g vs) (k : Nat) (v : Value) : PsV W (w.setCell ⟨g, k, none⟩ v) p2 pm pq r m a g (vs.setIfInBounds k v) := by
  have hk : Kept (fun j => j = g) w (w.setCell ⟨g, k, none⟩ v) := Kept.set _ _ _ rfl
  have q := h.ps
  exact ⟨⟨q.bel.setCell h.bg _, q.b2, q.bm, q.bq, q.ne, q.rz.kept hk (row_ne q.rz h.row (by decide)), q.rm.kept hk (row_ne q.rm h.row (by decide)), q.rr.kept hk (row_ne q.rr h.row (by decide)), q.o1.kept hk (fun j hj e => by subst e; exact q.o1.ne h.row (by decide) hj), q.o2.kept hk (fun j hj e => by subst e; exact q.o2.ne h.row (by decide) hj), q.o3.kept hk h.ne⟩, h.row.set k v, h.ne, h.bg⟩
/-- The result is set. -/
theorem Ps.res {W w : World} {p2 pm pq : Nat} {r : Pq.R} {m : Mx.M} {a : Ma} (h : Ps W w p2 pm pq r m a) (cs : Array Value) : RowT 27 (w.setRow p2 cs) p2 cs ∧ MIn (w.setRow p2 cs) m a ∧ Below W.heap.size W (w.setRow p2 cs) := by
  have hk : Kept (fun j => j = p2) w (w.setRow p2 cs) := ⟨rfl, rfl, rfl, by simp [World.setRow], fun k _ hk => setRow_other w p2 k _ (fun e => hk (by omega))⟩
  have o1 := h.o1.kept hk (fun j hj e => by subst e; exact h.o1.ne h.rz (by decide) hj)
  have o2 := h.o2.kept hk (fun j hj e => by subst e; exact h.o2.ne h.rz (by decide) hj)
  have o3 := h.o3.kept hk (fun j hj e => by subst e; exact h.o3.ne h.rz (by decide) hj)
  exact ⟨setRow_heap _ _ _ _ _ _ h.rz, ⟨o1.sl.li, o2.sl.li, o3.sl.li⟩, h.bel.trans (hk.below (fun g hg => by rw [hg]; exact h.b2) h.bel.size)⟩
theorem minfo13 : (Tryd.prog.info? 27).map (·.size) = some 11 := by kernel_rfl
theorem mcs_one (m : Mx.M) (a : Ma) : (mCs m a).all (·.oneCell') = true := by simp [mCs, Value.oneCell']
/-- So many were read already. -/
def Md {α : Type} (f : Pq.R → α × Pq.R) (n : Nat) (r0 : Pq.R) (k : Nat) (l : List α) (r : Pq.R) : Prop := Pq.many f n r0 = (l ++ (Pq.many f (n - k) r).1, (Pq.many f (n - k) r).2) ∧ l.length = k
theorem Md.start {α : Type} (f : Pq.R → α × Pq.R) (n : Nat) (r0 : Pq.R) : Md f n r0 0 [] r0 := ⟨rfl, rfl⟩
theorem Md.step {α : Type} {f : Pq.R → α × Pq.R} {n : Nat} {r0 : Pq.R} {k : Nat} {l : List α} {r r' : Pq.R} {x : α} (h : Md f n r0 k l r) (hk : k < n) (hb : r.bad = false) (he : f r = (x, r')) : Md f n r0 (k + 1) (l ++ [x]) r' := by
  obtain ⟨h1, h2⟩ := h
  refine ⟨?_, by rw [List.length_append, h2]; rfl⟩
  obtain ⟨d, hd⟩ : ∃ d, n - k = d + 1 := ⟨n - k - 1, by omega⟩
  have hd2 : n - (k + 1) = d := by omega
  rw [hd] at h1
  rw [hd2, h1, Pq.many, hb]
  simp only [Bool.false_eq_true, if_false, he, List.append_assoc]
  rfl
theorem Md.stop {α : Type} {f : Pq.R → α × Pq.R} {n : Nat} {r0 : Pq.R} {k : Nat} {l : List α} {r : Pq.R} (h : Md f n r0 k l r) (hk : k ≤ n) (he : k = n ∨ r.bad = true) : Pq.many f n r0 = (l, r) := by
  rw [h.1]
  have : Pq.many f (n - k) r = ([], r) := by
    rcases he with rfl | hb
    · rw [Nat.sub_self]; rfl
    · cases hd : n - k with
      | zero => rfl
      | succ d => rw [Pq.many, hb]; rfl
  rw [this, List.append_nil]
theorem Md.len {α : Type} {f : Pq.R → α × Pq.R} {n : Nat} {r0 : Pq.R} {k : Nat} {l : List α} {r : Pq.R} (h : Md f n r0 k l r) : l.length = k := h.2
theorem ps_new (W : World) (t : List UInt8) : Ps W (((W.alloc (.cells (mCs Mx.nil0 Ma.nil0) 27)).alloc (.cells (rC ⟨t, false⟩) 60)).alloc (.cells (mCs Mx.nil0 Ma.nil0) 27)) W.heap.size (W.heap.size + 1 + 1) (W.heap.size + 1) ⟨t, false⟩ Mx.nil0 Ma.nil0 := by
  have hs : ∀ (w : World) o, (w.alloc o).heap.size = w.heap.size + 1 := fun w o => by simp
  have al : ∀ (w : World) (o : Obj), Below w.heap.size w (w.alloc o) := fun w o => (Below.refl _ _).alloc (Nat.le_refl _) _
  have b1 := al W (.cells (mCs Mx.nil0 Ma.nil0) 27)
  have b2 := al (W.alloc (.cells (mCs Mx.nil0 Ma.nil0) 27)) (.cells (rC ⟨t, false⟩) 60)
  have b3 := al ((W.alloc (.cells (mCs Mx.nil0 Ma.nil0) 27)).alloc (.cells (rC ⟨t, false⟩) 60)) (.cells (mCs Mx.nil0 Ma.nil0) 27)
  have n1 : RowT 27 (W.alloc (.cells (mCs Mx.nil0 Ma.nil0) 27)) W.heap.size (mCs Mx.nil0 Ma.nil0) := RowT.new _ _ _
  have n2 : RowT 60 ((W.alloc (.cells (mCs Mx.nil0 Ma.nil0) 27)).alloc (.cells (rC ⟨t, false⟩) 60)) (W.heap.size + 1) (rC ⟨t, false⟩) := by
    have := RowT.new 60 (W.alloc (.cells (mCs Mx.nil0 Ma.nil0) 27)) (rC ⟨t, false⟩)
    rwa [hs] at this
  have n3 := RowT.new 27 ((W.alloc (.cells (mCs Mx.nil0 Ma.nil0) 27)).alloc (.cells (rC ⟨t, false⟩) 60)) (mCs Mx.nil0 Ma.nil0)
  rw [hs, hs] at n3
  exact ⟨b1.trans ((b2.trans (b3.mono b2.size)).mono b1.size), Nat.le_refl _, by omega, by omega, by omega, (n1.on b2).on b3, n3, n2.on b3, Sg.OL.nil _ _ _ _, Sg.OL.nil _ _ _ _, Sg.OL.nil _ _ _ _⟩
set_option maxRecDepth 100000 in
set_option maxHeartbeats 4000000 in
theorem rparse_of (HPr : Hid (∀ (W : World) (m : Mx.M) (a : Ma), MIn W m a → Mx.Small m → Calls Tryd.prog 13 #[mV m a] W fun e w' => e = .returned (.string ⟨(Pq.pr m).toArray⟩) ∧ Below W.heap.size W w')) (W : World) (b : List UInt8) (hl : b.length ≤ 1000) : Calls Tryd.prog 16 #[.string ⟨b.toArray⟩] W fun e w' => Told13 b e w' ∧ Below W.heap.size W w' := by
  have hsz : (⟨b.toArray⟩ : ByteArray).size = b.length := by show b.toArray.size = _; simp
  by_cases h1 : 400 < b.length
  · have HT : Hid (∀ m, ¬ Pq.Of b m) := fun m h => by have := (of_front h).2.1; omega
    have h1i : (400 : Int) < (b.length : Int) := by omega
    go_enter Tryd.func16, Tryd.ntmps16
    go_wp2
    exact bodyPost_ret (v := .tuple #[mV Mx.nil0 Ma.nil0, .bool false]) (by simp [results, Tryd.results16, go_sem, mCs, Mx.nil0, Ma.nil0]) rfl ⟨Or.inr ⟨HT.out, rfl⟩, (Below.refl _ _).alloc (Nat.le_refl _) _⟩
  cases b with
  | nil =>
    have HT : Hid (∀ m, ¬ Pq.Of [] m) := fun m h => by have := (of_front h).1; simp at this
    go_enter Tryd.func16, Tryd.ntmps16
    go_wp2
    exact bodyPost_ret (v := .tuple #[mV Mx.nil0 Ma.nil0, .bool false]) (by simp [results, Tryd.results16, go_sem, mCs, Mx.nil0, Ma.nil0]) rfl ⟨Or.inr ⟨HT.out, rfl⟩, (Below.refl _ _).alloc (Nat.le_refl _) _⟩
  | cons x t =>
    have hlt : t.length < 400 := by simp at h1; omega
    have hs2 : (⟨(x :: t).toArray⟩ : ByteArray).size = t.length + 1 := by show (x :: t).toArray.size = _; simp
    clear hsz h1 hl
    by_cases hx : x = 79
    · subst hx
      have HX : (⟨((79 : UInt8) :: t).toArray⟩ : ByteArray).extract 1 (t.length + 1) = ⟨t.toArray⟩ := tail_ext 79 t
      have hx0 : (⟨((79 : UInt8) :: t).toArray⟩ : ByteArray)[0].toNat = 79 := rfl
      have H1 : Hid (∀ (w : World) (q : Nat) (r : Pq.R), RowT 60 w q (rC r) → r.s.length ≤ 1000 → Calls Tryd.prog 26 #[Ob.ptr q] w (Reads w q (Pq.one r).1 (Pq.one r).2)) := rone_any
      have H2 : Hid (∀ (w : World) (q : Nat) (r : Pq.R), RowT 60 w q (rC r) → r.s.length ≤ 1000 → Calls Tryd.prog 27 #[Ob.ptr q] w (Reads w q (Pq.twoR r).1 (Pq.twoR r).2)) := rtwoR_any
      go_enter Tryd.func16, Tryd.ntmps16
      go_wp2_with fail
      have HP0 : Hid (Ps W (((W.alloc (.cells #[.int .i64 0, .int .i64 0, .int .i64 0, .int .i64 0, .int .i64 0, .int .i64 0, .int .i64 0, .int .u32 0, .slice none 0 0, .slice none 0 0, .slice none 0 0] 27)).alloc (.cells #[.string ⟨t.toArray⟩, .bool false] 60)).alloc (.cells #[.int .i64 0, .int .i64 0, .int .i64 0, .int .i64 0, .int .i64 0, .int .i64 0, .int .i64 0, .int .u32 0, .slice none 0 0, .slice none 0 0, .slice none 0 0] 27)) W.heap.size (W.heap.size + 1 + 1) (W.heap.size + 1) ⟨t, false⟩ (⟨0, 0, 0, 0, 0, 0, 0, 0, [], [], []⟩ : Mx.M) Ma.nil0) := ps_new W t
      generalize (((W.alloc (.cells #[.int .i64 0, .int .i64 0, .int .i64 0, .int .i64 0, .int .i64 0, .int .i64 0, .int .i64 0, .int .u32 0, .slice none 0 0, .slice none 0 0, .slice none 0 0] 27)).alloc (.cells #[.string ⟨t.toArray⟩, .bool false] 60)).alloc (.cells #[.int .i64 0, .int .i64 0, .int .i64 0, .int .i64 0, .int .i64 0, .int .i64 0, .int .i64 0, .int .u32 0, .slice none 0 0, .slice none 0 0, .slice none 0 0] 27)) = v0 at HP0 ⊢
      clear HX hx0 hs2
      obtain ⟨r0, hr0⟩ : ∃ r : Pq.R, (⟨t, false⟩ : Pq.R) = r := ⟨_, rfl⟩
      have HLr0 : Hid (r0.s.length ≤ 1000) := by show _ ≤ _; rw [← hr0]; exact Nat.le_trans (Nat.le_of_lt hlt) (by decide)
      rw [hr0] at HP0
      have HR0 : Hid ((⟨t, false⟩ : Pq.R) = r0) := hr0
      clear hr0 hlt
      have hc := H1.out _ _ _ HP0.out.rr HLr0.out
      obtain ⟨x0, hx⟩ : ∃ z, (Pq.one r0).1 = z := ⟨_, rfl⟩
      obtain ⟨r1, hr⟩ : ∃ z, (Pq.one r0).2 = z := ⟨_, rfl⟩
      have HLr1 : Hid (r1.s.length ≤ 1000) := by show _ ≤ _; rw [← hr]; exact Nat.le_trans (one_len _) HLr0.out
      have HEr1 : Hid (Pq.one r0 = (x0, r1)) := by rw [← hx, ← hr]; rfl
      have HNr1 : Hid (0 ≤ x0 ∧ x0 < 256) := by have := one_num r0; rw [hx] at this; exact this
      rw [hx, hr] at hc
      refine hc.mono ?_
      rintro e u0 ⟨rfl, hrr, hkk⟩
      have HQ0 : Hid (Ps W u0 W.heap.size (W.heap.size + 1 + 1) (W.heap.size + 1) r1 (⟨0, 0, 0, 0, 0, 0, 0, 0, [], [], []⟩ : Mx.M) Ma.nil0) := HP0.out.rd hrr hkk
      clear hc hx hr hrr hkk
      have HP1 : Hid (Ps W (u0.setCell ⟨W.heap.size + 1 + 1, 0, none⟩ (.int .i64 x0)) W.heap.size (W.heap.size + 1 + 1) (W.heap.size + 1) r1 (⟨x0, 0, 0, 0, 0, 0, 0, 0, [], [], []⟩ : Mx.M) Ma.nil0) := HQ0.out.word 0 _ rfl rfl rfl rfl
      have f0 := HQ0.out.rm.f 0
      have c0 : u0.cell? ⟨W.heap.size + 1 + 1, 0, none⟩ = some (.int .i64 0) := HQ0.out.rm.c 0 _ rfl
      clear HQ0 HP0 HLr0 HNr1
      go_wp2_with fail
      generalize u0.setCell ⟨W.heap.size + 1 + 1, 0, none⟩ (.int .i64 x0) = v1 at HP1 ⊢
      clear f0 c0
      have hc := H1.out _ _ _ HP1.out.rr HLr1.out
      obtain ⟨x1, hx⟩ : ∃ z, (Pq.one r1).1 = z := ⟨_, rfl⟩
      obtain ⟨r2, hr⟩ : ∃ z, (Pq.one r1).2 = z := ⟨_, rfl⟩
      have HLr2 : Hid (r2.s.length ≤ 1000) := by show _ ≤ _; rw [← hr]; exact Nat.le_trans (one_len _) HLr1.out
      have HEr2 : Hid (Pq.one r1 = (x1, r2)) := by rw [← hx, ← hr]; rfl
      have HNr2 : Hid (0 ≤ x1 ∧ x1 < 256) := by have := one_num r1; rw [hx] at this; exact this
      rw [hx, hr] at hc
      refine hc.mono ?_
      rintro e u1 ⟨rfl, hrr, hkk⟩
      have HQ1 : Hid (Ps W u1 W.heap.size (W.heap.size + 1 + 1) (W.heap.size + 1) r2 (⟨x0, 0, 0, 0, 0, 0, 0, 0, [], [], []⟩ : Mx.M) Ma.nil0) := HP1.out.rd hrr hkk
      clear hc hx hr hrr hkk
      have HP2 : Hid (Ps W (u1.setCell ⟨W.heap.size + 1 + 1, 1, none⟩ (.int .i64 x1)) W.heap.size (W.heap.size + 1 + 1) (W.heap.size + 1) r2 (⟨x0, x1, 0, 0, 0, 0, 0, 0, [], [], []⟩ : Mx.M) Ma.nil0) := HQ1.out.word 1 _ rfl rfl rfl rfl
      have f1 := HQ1.out.rm.f 1
      have c1 : u1.cell? ⟨W.heap.size + 1 + 1, 1, none⟩ = some (.int .i64 0) := HQ1.out.rm.c 1 _ rfl
      clear HQ1 HP1 HLr1 HNr2
      go_wp2_with fail
      generalize u1.setCell ⟨W.heap.size + 1 + 1, 1, none⟩ (.int .i64 x1) = v2 at HP2 ⊢
      clear f1 c1
      have hc := H1.out _ _ _ HP2.out.rr HLr2.out
      obtain ⟨x2, hx⟩ : ∃ z, (Pq.one r2).1 = z := ⟨_, rfl⟩
      obtain ⟨r3, hr⟩ : ∃ z, (Pq.one r2).2 = z := ⟨_, rfl⟩
      have HLr3 : Hid (r3.s.length ≤ 1000) := by show _ ≤ _; rw [← hr]; exact Nat.le_trans (one_len _) HLr2.out
      have HEr3 : Hid (Pq.one r2 = (x2, r3)) := by rw [← hx, ← hr]; rfl
      have HNr3 : Hid (0 ≤ x2 ∧ x2 < 256) := by have := one_num r2; rw [hx] at this; exact this
      rw [hx, hr] at hc
      refine hc.mono ?_
      rintro e u2 ⟨rfl, hrr, hkk⟩
      have HQ2 : Hid (Ps W u2 W.heap.size (W.heap.size + 1 + 1) (W.heap.size + 1) r3 (⟨x0, x1, 0, 0, 0, 0, 0, 0, [], [], []⟩ : Mx.M) Ma.nil0) := HP2.out.rd hrr hkk
      clear hc hx hr hrr hkk
      have HP3 : Hid (Ps W (u2.setCell ⟨W.heap.size + 1 + 1, 2, none⟩ (.int .i64 x2)) W.heap.size (W.heap.size + 1 + 1) (W.heap.size + 1) r3 (⟨x0, x1, x2, 0, 0, 0, 0, 0, [], [], []⟩ : Mx.M) Ma.nil0) := HQ2.out.word 2 _ rfl rfl rfl rfl
      have f2 := HQ2.out.rm.f 2
      have c2 : u2.cell? ⟨W.heap.size + 1 + 1, 2, none⟩ = some (.int .i64 0) := HQ2.out.rm.c 2 _ rfl
      clear HQ2 HP2 HLr2 HNr3
      go_wp2_with fail
      generalize u2.setCell ⟨W.heap.size + 1 + 1, 2, none⟩ (.int .i64 x2) = v3 at HP3 ⊢
      clear f2 c2
      have hc := H2.out _ _ _ HP3.out.rr HLr3.out
      obtain ⟨x3, hx⟩ : ∃ z, (Pq.twoR r3).1 = z := ⟨_, rfl⟩
      obtain ⟨r4, hr⟩ : ∃ z, (Pq.twoR r3).2 = z := ⟨_, rfl⟩
      have HLr4 : Hid (r4.s.length ≤ 1000) := by show _ ≤ _; rw [← hr]; exact Nat.le_trans (two_len _) HLr3.out
      have HEr4 : Hid (Pq.twoR r3 = (x3, r4)) := by rw [← hx, ← hr]; rfl
      have HNr4 : Hid (0 ≤ x3 ∧ x3 < 65536) := by have := two_num r3; rw [hx] at this; exact this
      rw [hx, hr] at hc
      refine hc.mono ?_
      rintro e u3 ⟨rfl, hrr, hkk⟩
      have HQ3 : Hid (Ps W u3 W.heap.size (W.heap.size + 1 + 1) (W.heap.size + 1) r4 (⟨x0, x1, x2, 0, 0, 0, 0, 0, [], [], []⟩ : Mx.M) Ma.nil0) := HP3.out.rd hrr hkk
      clear hc hx hr hrr hkk
      have HP4 : Hid (Ps W (u3.setCell ⟨W.heap.size + 1 + 1, 3, none⟩ (.int .i64 x3)) W.heap.size (W.heap.size + 1 + 1) (W.heap.size + 1) r4 (⟨x0, x1, x2, x3, 0, 0, 0, 0, [], [], []⟩ : Mx.M) Ma.nil0) := HQ3.out.word 3 _ rfl rfl rfl rfl
      have f3 := HQ3.out.rm.f 3
      have c3 : u3.cell? ⟨W.heap.size + 1 + 1, 3, none⟩ = some (.int .i64 0) := HQ3.out.rm.c 3 _ rfl
      clear HQ3 HP3 HLr3 HNr4
      go_wp2_with fail
      generalize u3.setCell ⟨W.heap.size + 1 + 1, 3, none⟩ (.int .i64 x3) = v4 at HP4 ⊢
      clear f3 c3
      have hc := H1.out _ _ _ HP4.out.rr HLr4.out
      obtain ⟨x4, hx⟩ : ∃ z, (Pq.one r4).1 = z := ⟨_, rfl⟩
      obtain ⟨r5, hr⟩ : ∃ z, (Pq.one r4).2 = z := ⟨_, rfl⟩
      have HLr5 : Hid (r5.s.length ≤ 1000) := by show _ ≤ _; rw [← hr]; exact Nat.le_trans (one_len _) HLr4.out
      have HEr5 : Hid (Pq.one r4 = (x4, r5)) := by rw [← hx, ← hr]; rfl
      have HNr5 : Hid (0 ≤ x4 ∧ x4 < 256) := by have := one_num r4; rw [hx] at this; exact this
      rw [hx, hr] at hc
      refine hc.mono ?_
      rintro e u4 ⟨rfl, hrr, hkk⟩
      have HQ4 : Hid (Ps W u4 W.heap.size (W.heap.size + 1 + 1) (W.heap.size + 1) r5 (⟨x0, x1, x2, x3, 0, 0, 0, 0, [], [], []⟩ : Mx.M) Ma.nil0) := HP4.out.rd hrr hkk
      clear hc hx hr hrr hkk
      have HP5 : Hid (Ps W (u4.setCell ⟨W.heap.size + 1 + 1, 4, none⟩ (.int .i64 x4)) W.heap.size (W.heap.size + 1 + 1) (W.heap.size + 1) r5 (⟨x0, x1, x2, x3, x4, 0, 0, 0, [], [], []⟩ : Mx.M) Ma.nil0) := HQ4.out.word 4 _ rfl rfl rfl rfl
      have f4 := HQ4.out.rm.f 4
      have c4 : u4.cell? ⟨W.heap.size + 1 + 1, 4, none⟩ = some (.int .i64 0) := HQ4.out.rm.c 4 _ rfl
      clear HQ4 HP4 HLr4 HNr5
      go_wp2_with fail
      generalize u4.setCell ⟨W.heap.size + 1 + 1, 4, none⟩ (.int .i64 x4) = v5 at HP5 ⊢
      clear f4 c4
      have hc := H1.out _ _ _ HP5.out.rr HLr5.out
      obtain ⟨x5, hx⟩ : ∃ z, (Pq.one r5).1 = z := ⟨_, rfl⟩
      obtain ⟨r6, hr⟩ : ∃ z, (Pq.one r5).2 = z := ⟨_, rfl⟩
      have HLr6 : Hid (r6.s.length ≤ 1000) := by show _ ≤ _; rw [← hr]; exact Nat.le_trans (one_len _) HLr5.out
      have HEr6 : Hid (Pq.one r5 = (x5, r6)) := by rw [← hx, ← hr]; rfl
      have HNr6 : Hid (0 ≤ x5 ∧ x5 < 256) := by have := one_num r5; rw [hx] at this; exact this
      rw [hx, hr] at hc
      refine hc.mono ?_
      rintro e u5 ⟨rfl, hrr, hkk⟩
      have HQ5 : Hid (Ps W u5 W.heap.size (W.heap.size + 1 + 1) (W.heap.size + 1) r6 (⟨x0, x1, x2, x3, x4, 0, 0, 0, [], [], []⟩ : Mx.M) Ma.nil0) := HP5.out.rd hrr hkk
      clear hc hx hr hrr hkk
      have HP6 : Hid (Ps W (u5.setCell ⟨W.heap.size + 1 + 1, 5, none⟩ (.int .i64 x5)) W.heap.size (W.heap.size + 1 + 1) (W.heap.size + 1) r6 (⟨x0, x1, x2, x3, x4, x5, 0, 0, [], [], []⟩ : Mx.M) Ma.nil0) := HQ5.out.word 5 _ rfl rfl rfl rfl
      have f5 := HQ5.out.rm.f 5
      have c5 : u5.cell? ⟨W.heap.size + 1 + 1, 5, none⟩ = some (.int .i64 0) := HQ5.out.rm.c 5 _ rfl
      clear HQ5 HP5 HLr5 HNr6
      go_wp2_with fail
      generalize u5.setCell ⟨W.heap.size + 1 + 1, 5, none⟩ (.int .i64 x5) = v6 at HP6 ⊢
      clear f5 c5
      have hc := H2.out _ _ _ HP6.out.rr HLr6.out
      obtain ⟨x6, hx⟩ : ∃ z, (Pq.twoR r6).1 = z := ⟨_, rfl⟩
      obtain ⟨r7, hr⟩ : ∃ z, (Pq.twoR r6).2 = z := ⟨_, rfl⟩
      have HLr7 : Hid (r7.s.length ≤ 1000) := by show _ ≤ _; rw [← hr]; exact Nat.le_trans (two_len _) HLr6.out
      have HEr7 : Hid (Pq.twoR r6 = (x6, r7)) := by rw [← hx, ← hr]; rfl
      have HNr7 : Hid (0 ≤ x6 ∧ x6 < 65536) := by have := two_num r6; rw [hx] at this; exact this
      rw [hx, hr] at hc
      refine hc.mono ?_
      rintro e u6 ⟨rfl, hrr, hkk⟩
      have HQ6 : Hid (Ps W u6 W.heap.size (W.heap.size + 1 + 1) (W.heap.size + 1) r7 (⟨x0, x1, x2, x3, x4, x5, 0, 0, [], [], []⟩ : Mx.M) Ma.nil0) := HP6.out.rd hrr hkk
      clear hc hx hr hrr hkk
      have HP7 : Hid (Ps W (u6.setCell ⟨W.heap.size + 1 + 1, 6, none⟩ (.int .i64 x6)) W.heap.size (W.heap.size + 1 + 1) (W.heap.size + 1) r7 (⟨x0, x1, x2, x3, x4, x5, x6, 0, [], [], []⟩ : Mx.M) Ma.nil0) := HQ6.out.word 6 _ rfl rfl rfl rfl
      have f6 := HQ6.out.rm.f 6
      have c6 : u6.cell? ⟨W.heap.size + 1 + 1, 6, none⟩ = some (.int .i64 0) := HQ6.out.rm.c 6 _ rfl
      clear HQ6 HP6 HLr6 HNr7
      go_wp2_with fail
      generalize u6.setCell ⟨W.heap.size + 1 + 1, 6, none⟩ (.int .i64 x6) = v7 at HP7 ⊢
      clear f6 c6
      have hc := H2.out _ _ _ HP7.out.rr HLr7.out
      obtain ⟨x7, hx⟩ : ∃ z, (Pq.twoR r7).1 = z := ⟨_, rfl⟩
      obtain ⟨r8, hr⟩ : ∃ z, (Pq.twoR r7).2 = z := ⟨_, rfl⟩
      have HLr8 : Hid (r8.s.length ≤ 1000) := by show _ ≤ _; rw [← hr]; exact Nat.le_trans (two_len _) HLr7.out
      have HEr8 : Hid (Pq.twoR r7 = (x7, r8)) := by rw [← hx, ← hr]; rfl
      have HNr8 : Hid (0 ≤ x7 ∧ x7 < 65536) := by have := two_num r7; rw [hx] at this; exact this
      rw [hx, hr] at hc
      refine hc.mono ?_
      rintro e u7 ⟨rfl, hrr, hkk⟩
      have HQ7 : Hid (Ps W u7 W.heap.size (W.heap.size + 1 + 1) (W.heap.size + 1) r8 (⟨x0, x1, x2, x3, x4, x5, x6, 0, [], [], []⟩ : Mx.M) Ma.nil0) := HP7.out.rd hrr hkk
      clear hc hx hr hrr hkk
      obtain ⟨R, hR⟩ : ∃ R : Nat, (x7 % 4294967296).toNat = R := ⟨_, rfl⟩
      have eR : IntKind.u32.wrap x7 = (R : Int) := by rw [IntKind.wrap_u32, ← hR]; omega
      have HRf : Hid ((x7 % 4294967296).toNat = R) := hR
      have HP8 : Hid (Ps W (u7.setCell ⟨W.heap.size + 1 + 1, 7, none⟩ (.int .u32 (R : Int))) W.heap.size (W.heap.size + 1 + 1) (W.heap.size + 1) r8 (⟨x0, x1, x2, x3, x4, x5, x6, R, [], [], []⟩ : Mx.M) Ma.nil0) := HQ7.out.word 7 _ rfl rfl rfl rfl
      have f7 := HQ7.out.rm.f 7
      have c7 : u7.cell? ⟨W.heap.size + 1 + 1, 7, none⟩ = some (.int .u32 0) := HQ7.out.rm.c 7 _ rfl
      clear HQ7 HP7 HLr7 hR HNr8
      go_wp2_with fail
      generalize u7.setCell ⟨W.heap.size + 1 + 1, 7, none⟩ (.int .u32 (R : Int)) = v8 at HP8 ⊢
      clear f7 c7 eR
      have hc := H1.out _ _ _ HP8.out.rr HLr8.out
      obtain ⟨y1, hx⟩ : ∃ z, (Pq.one r8).1 = z := ⟨_, rfl⟩
      obtain ⟨r9, hr⟩ : ∃ z, (Pq.one r8).2 = z := ⟨_, rfl⟩
      have HLr9 : Hid (r9.s.length ≤ 1000) := by show _ ≤ _; rw [← hr]; exact Nat.le_trans (one_len _) HLr8.out
      have HEr9 : Hid (Pq.one r8 = (y1, r9)) := by rw [← hx, ← hr]; rfl
      have HNr9 : Hid (0 ≤ y1 ∧ y1 < 256) := by have := one_num r8; rw [hx] at this; exact this
      rw [hx, hr] at hc
      refine hc.mono ?_
      rintro e v9 ⟨rfl, hrr, hkk⟩
      have HP9 : Hid (Ps W v9 W.heap.size (W.heap.size + 1 + 1) (W.heap.size + 1) r9 (⟨x0, x1, x2, x3, x4, x5, x6, R, [], [], []⟩ : Mx.M) Ma.nil0) := HP8.out.rd hrr hkk
      clear hc hx hr hrr hkk
      obtain ⟨n1, rfl⟩ := Int.eq_ofNat_of_zero_le HNr9.out.1
      have hn1 : (n1 : Int) < 256 := HNr9.out.2
      clear HNr9
      clear HP8 HLr8
      go_upto_block 0 with fail
      go_cut [7] from 59 to 77 (fun _v7 wx => ∃ (l : List Int) (r : Pq.R) (a : Ma), Hid (Pq.many Pq.one n1 r9 = (l, r)) ∧ Hid (r.s.length ≤ 1000) ∧ Hid (l.length ≤ 255) ∧ Hid (Ps W wx W.heap.size (W.heap.size + 1 + 1) (W.heap.size + 1) r (⟨x0, x1, x2, x3, x4, x5, x6, R, l, [], []⟩ : Mx.M) a))
      case first =>
        go_wp2_with fail
        go_loopw [7] (fun vi wr => ∃ (k : Nat) (l : List Int) (r : Pq.R) (a : Ma), k ≤ n1 ∧ vi = .int .i64 (k : Int) ∧ Hid (Md Pq.one n1 r9 k l r) ∧ Hid (r.s.length ≤ 1000) ∧ Hid (Ps W wr W.heap.size (W.heap.size + 1 + 1) (W.heap.size + 1) r (⟨x0, x1, x2, x3, x4, x5, x6, R, l, [], []⟩ : Mx.M) a)) (fun vi _ => n1 - (intOf vi).toNat)
        case atStart => exact ⟨0, [], r9, Ma.nil0, Nat.zero_le _, rfl, Md.start _ _ _, HLr9, HP9⟩
        case round =>
          clear HP9 HLr9
          obtain ⟨k, l, r, a, hk, rfl, HD, HLr, HP⟩ := hrel
          have cb : wr.cell? ⟨W.heap.size + 1, 1, none⟩ = some (.bool r.bad) := HP.out.rr.c 1 _ rfl
          by_cases hkn : k < n1
          · have ki : (k : Int) < (n1 : Int) := by omega
            have HLl : Hid (l.length = k) := HD.out.len
            cases hbad : r.bad
            · rw [hbad] at cb
              have kb : (k : Int) < 1000 := by omega
              go_wp2_with fail
              have HP1 : Hid (Ps W wr.drew W.heap.size (W.heap.size + 1 + 1) (W.heap.size + 1) r (⟨x0, x1, x2, x3, x4, x5, x6, R, l, [], []⟩ : Mx.M) a) := HP.out.on (Below.refl _ _).drew
              have HBd : Hid (r.bad = false) := hbad
              clear HP cb hbad
              refine wp_region_held_drew (S := fun _ => True) (by kernel_rfl) trivial (fun hHeld => ?_)
              clear hHeld
              refine Hl.takeL (i := 0) (d := 71) (v := ?_) rfl (by kernel_rfl) (by kernel_rfl) (by kernel_rfl) (fun _ _ _ h => h) (by rfl) ?_ trivial ?_
              rotate_left
              · intro w hSw; go_simp; (try with_reducible rfl)
              simp only [Act.put, List.setIfInBounds_toArray, List.set_cons_zero, List.set_cons_succ]
              refine Hl.takeL (i := 2) (d := 73) (v := ?_) rfl (by kernel_rfl) (by kernel_rfl) (by kernel_rfl) (fun _ _ _ h => h) (by rfl) ?_ trivial ?_
              rotate_left
              · intro w hSw; go_simp; (try with_reducible rfl)
              simp only [Act.put, List.setIfInBounds_toArray, List.set_cons_zero, List.set_cons_succ]
              refine Hl.consL2 (i := 1) (j := 3) rfl rfl (by kernel_rfl) (fun K' hK' => ?_) (fun K' hK' => ?_)
              · skip
                have c8 : wr.drew.cell? ⟨W.heap.size + 1 + 1, 8, none⟩ = some (.slice a.s1 l.length a.c1) := HP1.out.rm.c 8 _ rfl
                go_simp
                refine hK'.out _ _ trivial (fun hHeld => ?_)
                clear hK' K' hHeld
                clear c8
                refine Hl.consL (i := 3) rfl (by kernel_rfl) (fun K' hK' => ?_)
                go_simp
                have hc := H1.out _ _ _ HP1.out.rr HLr.out
                obtain ⟨y, hx⟩ : ∃ z, (Pq.one r).1 = z := ⟨_, rfl⟩
                obtain ⟨r2, hr⟩ : ∃ z, (Pq.one r).2 = z := ⟨_, rfl⟩
                have HLr2 : Hid (r2.s.length ≤ 1000) := by show _ ≤ _; rw [← hr]; exact Nat.le_trans (one_len _) HLr.out
                have HEr2 : Hid (Pq.one r = (y, r2)) := by rw [← hx, ← hr]; rfl
                have HNr2 : Hid (0 ≤ y ∧ y < 256) := by have := one_num r; rw [hx] at this; exact this
                rw [hx, hr] at hc
                refine hc.mono ?_
                rintro e w2 ⟨rfl, hrr, hkk⟩
                have HP2 : Hid (Ps W w2 W.heap.size (W.heap.size + 1 + 1) (W.heap.size + 1) r2 (⟨x0, x1, x2, x3, x4, x5, x6, R, l, [], []⟩ : Mx.M) a) := HP1.out.rd hrr hkk
                clear hc hx hr hrr hkk
                try go_wp2_with fail
                refine hK'.out _ _ trivial (fun hHeld => ?_)
                clear hK' K' hHeld
                refine Hl.consL (i := 4) rfl (by kernel_rfl) (fun K' hK' => ?_)
                have HS : Hid (Src Tryd.prog 1 23 (.slice (some ⟨w2.heap.size, 0, none⟩) 1 1) 1 [.int .i64 y] (w2.alloc (.cells [.int .i64 y].toArray 3))) := Sg.src_new Tryd.underlying23 w2 3 1 1 _ rfl (fun u hu => by simp at hu; subst hu; rfl)
                have HP3 : Hid (Ps W (w2.alloc (.cells [.int .i64 y].toArray 3)) W.heap.size (W.heap.size + 1 + 1) (W.heap.size + 1) r2 (⟨x0, x1, x2, x3, x4, x5, x6, R, l, [], []⟩ : Mx.M) a) := HP2.out.al _
                go_simp
                refine hK'.out _ _ trivial (fun hHeld => ?_)
                clear hK' K' hHeld
                refine Hl.consL (i := 5) rfl (by kernel_rfl) (fun K' hK' => ?_)
                refine Sg.step_appendO elInt rfl (.tmp 72) (.tmp 75) 23 rfl rfl rfl HP3.out.o1 HP3.out.bel.size HS.out (by have := HLl.out; show l.length + 1 ≤ 1000000; omega) ?_
                intro s' c' n' w' hn h1 hkk
                obtain ⟨ha, hf, hc⟩ := HP3.out.app1 h1 hn hkk
                have HPn : Hid (Ps W _ W.heap.size (W.heap.size + 1 + 1) (W.heap.size + 1) r2 (⟨x0, x1, x2, x3, x4, x5, x6, R, (l ++ [y]), [], []⟩ : Mx.M) _) := ha
                clear ha hn h1 hkk HS
                refine hK'.out _ _ trivial (fun hHeld => ?_)
                clear hK' K' hHeld
                refine Hl.takeL (i := 6) (d := 77) (v := ?_) rfl (by kernel_rfl) (by kernel_rfl) (by kernel_rfl) (fun _ _ _ h => h) (by rfl) ?_ trivial ?_
                rotate_left
                · intro w hSw; go_simp; (try with_reducible rfl)
                simp only [Act.put, List.setIfInBounds_toArray, List.set_cons_zero, List.set_cons_succ]
                refine Hl.consL (i := 7) rfl (by kernel_rfl) (fun K' hK' => ?_)
                go_simp
                refine hK'.out _ _ trivial (fun hHeld => ?_)
                clear hK' K' hHeld
                refine wpAnyH_done (by kernel_rfl) ?_ _
                have HDn : Hid (Md Pq.one n1 r9 (k + 1) (l ++ [y]) r2) := HD.out.step hkn HBd.out HEr2.out
                clear hf hc
                go_wp2_with fail
                go_roundw
                case rel => exact ⟨k + 1, _, _, _, by omega, rfl, HDn, HLr2, HPn⟩
                case measure => simp only [intOf]; omega
              · skip
                go_simp
                have hc := H1.out _ _ _ HP1.out.rr HLr.out
                obtain ⟨y, hx⟩ : ∃ z, (Pq.one r).1 = z := ⟨_, rfl⟩
                obtain ⟨r2, hr⟩ : ∃ z, (Pq.one r).2 = z := ⟨_, rfl⟩
                have HLr2 : Hid (r2.s.length ≤ 1000) := by show _ ≤ _; rw [← hr]; exact Nat.le_trans (one_len _) HLr.out
                have HEr2 : Hid (Pq.one r = (y, r2)) := by rw [← hx, ← hr]; rfl
                have HNr2 : Hid (0 ≤ y ∧ y < 256) := by have := one_num r; rw [hx] at this; exact this
                rw [hx, hr] at hc
                refine hc.mono ?_
                rintro e w2 ⟨rfl, hrr, hkk⟩
                have HP2 : Hid (Ps W w2 W.heap.size (W.heap.size + 1 + 1) (W.heap.size + 1) r2 (⟨x0, x1, x2, x3, x4, x5, x6, R, l, [], []⟩ : Mx.M) a) := HP1.out.rd hrr hkk
                clear hc hx hr hrr hkk
                try go_wp2_with fail
                refine hK'.out _ _ trivial (fun hHeld => ?_)
                clear hK' K' hHeld
                refine Hl.consL2 (i := 1) (j := 4) rfl rfl (by kernel_rfl) (fun K' hK' => ?_) (fun K' hK' => ?_)
                · skip
                  have c8 : w2.cell? ⟨W.heap.size + 1 + 1, 8, none⟩ = some (.slice a.s1 l.length a.c1) := HP2.out.rm.c 8 _ rfl
                  go_simp
                  refine hK'.out _ _ trivial (fun hHeld => ?_)
                  clear hK' K' hHeld
                  clear c8
                  refine Hl.consL (i := 4) rfl (by kernel_rfl) (fun K' hK' => ?_)
                  have HS : Hid (Src Tryd.prog 1 23 (.slice (some ⟨w2.heap.size, 0, none⟩) 1 1) 1 [.int .i64 y] (w2.alloc (.cells [.int .i64 y].toArray 3))) := Sg.src_new Tryd.underlying23 w2 3 1 1 _ rfl (fun u hu => by simp at hu; subst hu; rfl)
                  have HP3 : Hid (Ps W (w2.alloc (.cells [.int .i64 y].toArray 3)) W.heap.size (W.heap.size + 1 + 1) (W.heap.size + 1) r2 (⟨x0, x1, x2, x3, x4, x5, x6, R, l, [], []⟩ : Mx.M) a) := HP2.out.al _
                  go_simp
                  refine hK'.out _ _ trivial (fun hHeld => ?_)
                  clear hK' K' hHeld
                  refine Hl.consL (i := 5) rfl (by kernel_rfl) (fun K' hK' => ?_)
                  refine Sg.step_appendO elInt rfl (.tmp 72) (.tmp 75) 23 rfl rfl rfl HP3.out.o1 HP3.out.bel.size HS.out (by have := HLl.out; show l.length + 1 ≤ 1000000; omega) ?_
                  intro s' c' n' w' hn h1 hkk
                  obtain ⟨ha, hf, hc⟩ := HP3.out.app1 h1 hn hkk
                  have HPn : Hid (Ps W _ W.heap.size (W.heap.size + 1 + 1) (W.heap.size + 1) r2 (⟨x0, x1, x2, x3, x4, x5, x6, R, (l ++ [y]), [], []⟩ : Mx.M) _) := ha
                  clear ha hn h1 hkk HS
                  refine hK'.out _ _ trivial (fun hHeld => ?_)
                  clear hK' K' hHeld
                  refine Hl.takeL (i := 6) (d := 77) (v := ?_) rfl (by kernel_rfl) (by kernel_rfl) (by kernel_rfl) (fun _ _ _ h => h) (by rfl) ?_ trivial ?_
                  rotate_left
                  · intro w hSw; go_simp; (try with_reducible rfl)
                  simp only [Act.put, List.setIfInBounds_toArray, List.set_cons_zero, List.set_cons_succ]
                  refine Hl.consL (i := 7) rfl (by kernel_rfl) (fun K' hK' => ?_)
                  go_simp
                  refine hK'.out _ _ trivial (fun hHeld => ?_)
                  clear hK' K' hHeld
                  refine wpAnyH_done (by kernel_rfl) ?_ _
                  have HDn : Hid (Md Pq.one n1 r9 (k + 1) (l ++ [y]) r2) := HD.out.step hkn HBd.out HEr2.out
                  clear hf hc
                  go_wp2_with fail
                  go_roundw
                  case rel => exact ⟨k + 1, _, _, _, by omega, rfl, HDn, HLr2, HPn⟩
                  case measure => simp only [intOf]; omega
                · skip
                  have HS : Hid (Src Tryd.prog 1 23 (.slice (some ⟨w2.heap.size, 0, none⟩) 1 1) 1 [.int .i64 y] (w2.alloc (.cells [.int .i64 y].toArray 3))) := Sg.src_new Tryd.underlying23 w2 3 1 1 _ rfl (fun u hu => by simp at hu; subst hu; rfl)
                  have HP3 : Hid (Ps W (w2.alloc (.cells [.int .i64 y].toArray 3)) W.heap.size (W.heap.size + 1 + 1) (W.heap.size + 1) r2 (⟨x0, x1, x2, x3, x4, x5, x6, R, l, [], []⟩ : Mx.M) a) := HP2.out.al _
                  go_simp
                  refine hK'.out _ _ trivial (fun hHeld => ?_)
                  clear hK' K' hHeld
                  refine Hl.consL (i := 1) rfl (by kernel_rfl) (fun K' hK' => ?_)
                  have c8 : (w2.alloc (.cells [.int .i64 y].toArray 3)).cell? ⟨W.heap.size + 1 + 1, 8, none⟩ = some (.slice a.s1 l.length a.c1) := HP3.out.rm.c 8 _ rfl
                  go_simp
                  refine hK'.out _ _ trivial (fun hHeld => ?_)
                  clear hK' K' hHeld
                  clear c8
                  refine Hl.consL (i := 5) rfl (by kernel_rfl) (fun K' hK' => ?_)
                  refine Sg.step_appendO elInt rfl (.tmp 72) (.tmp 75) 23 rfl rfl rfl HP3.out.o1 HP3.out.bel.size HS.out (by have := HLl.out; show l.length + 1 ≤ 1000000; omega) ?_
                  intro s' c' n' w' hn h1 hkk
                  obtain ⟨ha, hf, hc⟩ := HP3.out.app1 h1 hn hkk
                  have HPn : Hid (Ps W _ W.heap.size (W.heap.size + 1 + 1) (W.heap.size + 1) r2 (⟨x0, x1, x2, x3, x4, x5, x6, R, (l ++ [y]), [], []⟩ : Mx.M) _) := ha
                  clear ha hn h1 hkk HS
                  refine hK'.out _ _ trivial (fun hHeld => ?_)
                  clear hK' K' hHeld
                  refine Hl.takeL (i := 6) (d := 77) (v := ?_) rfl (by kernel_rfl) (by kernel_rfl) (by kernel_rfl) (fun _ _ _ h => h) (by rfl) ?_ trivial ?_
                  rotate_left
                  · intro w hSw; go_simp; (try with_reducible rfl)
                  simp only [Act.put, List.setIfInBounds_toArray, List.set_cons_zero, List.set_cons_succ]
                  refine Hl.consL (i := 7) rfl (by kernel_rfl) (fun K' hK' => ?_)
                  go_simp
                  refine hK'.out _ _ trivial (fun hHeld => ?_)
                  clear hK' K' hHeld
                  refine wpAnyH_done (by kernel_rfl) ?_ _
                  have HDn : Hid (Md Pq.one n1 r9 (k + 1) (l ++ [y]) r2) := HD.out.step hkn HBd.out HEr2.out
                  clear hf hc
                  go_wp2_with fail
                  go_roundw
                  case rel => exact ⟨k + 1, _, _, _, by omega, rfl, HDn, HLr2, HPn⟩
                  case measure => simp only [intOf]; omega
            · rw [hbad] at cb
              have HS : Hid (Pq.many Pq.one n1 r9 = (l, r)) := HD.out.stop hk (Or.inr hbad)
              go_wp2_with fail
              go_meet
              case rel => exact ⟨l, r, a, HS, HLr, by show l.length ≤ 255; have := HLl.out; omega, HP⟩
          · have HS : Hid (Pq.many Pq.one n1 r9 = (l, r)) := HD.out.stop hk (Or.inl (by omega))
            have HLl : Hid (l.length = k) := HD.out.len
            have ki : ¬ ((k : Int) < (n1 : Int)) := by omega
            go_wp2_with fail
            go_meet
            case rel => exact ⟨l, r, a, HS, HLr, by show l.length ≤ 255; have := HLl.out; omega, HP⟩
      case rest =>
        obtain ⟨l1, r10, a1, HS1, HLr10, HLl1, HP10⟩ := hcut
        go_wp2_with fail
        have hc := H1.out _ _ _ HP10.out.rr HLr10.out
        obtain ⟨y2, hx⟩ : ∃ z, (Pq.one r10).1 = z := ⟨_, rfl⟩
        obtain ⟨r11, hr⟩ : ∃ z, (Pq.one r10).2 = z := ⟨_, rfl⟩
        have HLr11 : Hid (r11.s.length ≤ 1000) := by show _ ≤ _; rw [← hr]; exact Nat.le_trans (one_len _) HLr10.out
        have HEr11 : Hid (Pq.one r10 = (y2, r11)) := by rw [← hx, ← hr]; rfl
        have HNr11 : Hid (0 ≤ y2 ∧ y2 < 256) := by have := one_num r10; rw [hx] at this; exact this
        rw [hx, hr] at hc
        refine hc.mono ?_
        rintro e v11 ⟨rfl, hrr, hkk⟩
        have HP11 : Hid (Ps W v11 W.heap.size (W.heap.size + 1 + 1) (W.heap.size + 1) r11 (⟨x0, x1, x2, x3, x4, x5, x6, R, l1, [], []⟩ : Mx.M) a1) := HP10.out.rd hrr hkk
        clear hc hx hr hrr hkk
        obtain ⟨n2, rfl⟩ := Int.eq_ofNat_of_zero_le HNr11.out.1
        have hn2 : (n2 : Int) < 256 := HNr11.out.2
        clear HNr11
        clear HP10 HLr10
        go_upto_block 2 with fail
        go_cut [8, 9, 10] from 80 to 107 (fun _v8 _v9 _v10 wx => ∃ (l : List Mx.Msg) (r : Pq.R) (a : Ma), Hid (Pq.many Pq.rMes n2 r11 = (l, r)) ∧ Hid (r.s.length ≤ 1000) ∧ Hid (l.length ≤ 255) ∧ Hid (Ps W wx W.heap.size (W.heap.size + 1 + 1) (W.heap.size + 1) r (⟨x0, x1, x2, x3, x4, x5, x6, R, l1, l, []⟩ : Mx.M) a))
        case first =>
          go_wp2_with fail
          go_loopw [8, 9, 10] (fun vi _v9 _v10 wr => ∃ (k : Nat) (l : List Mx.Msg) (r : Pq.R) (a : Ma), k ≤ n2 ∧ vi = .int .i64 (k : Int) ∧ Hid (Md Pq.rMes n2 r11 k l r) ∧ Hid (r.s.length ≤ 1000) ∧ Hid (Ps W wr W.heap.size (W.heap.size + 1 + 1) (W.heap.size + 1) r (⟨x0, x1, x2, x3, x4, x5, x6, R, l1, l, []⟩ : Mx.M) a)) (fun vi _v9 _v10 _ => n2 - (intOf vi).toNat)
          case atStart => exact ⟨0, [], r11, a1, Nat.zero_le _, rfl, Md.start _ _ _, HLr11, HP11⟩
          case round =>
            clear HP11 HLr11
            obtain ⟨k, l, r, a, hk, rfl, HD, HLr, HP⟩ := hrel
            have cb : wr.cell? ⟨W.heap.size + 1, 1, none⟩ = some (.bool r.bad) := HP.out.rr.c 1 _ rfl
            by_cases hkn : k < n2
            · have ki : (k : Int) < (n2 : Int) := by omega
              have HLl : Hid (l.length = k) := HD.out.len
              cases hbad : r.bad
              · rw [hbad] at cb
                have kb : (k : Int) < 1000 := by omega
                have HBd : Hid (r.bad = false) := hbad
                go_wp2_with fail
                have hc := H2.out _ _ _ HP.out.rr HLr.out
                obtain ⟨y, hx⟩ : ∃ z, (Pq.twoR r).1 = z := ⟨_, rfl⟩
                obtain ⟨ra, hr⟩ : ∃ z, (Pq.twoR r).2 = z := ⟨_, rfl⟩
                have HLra : Hid (ra.s.length ≤ 1000) := by show _ ≤ _; rw [← hr]; exact Nat.le_trans (two_len _) HLr.out
                have HEra : Hid (Pq.twoR r = (y, ra)) := by rw [← hx, ← hr]; rfl
                have HNra : Hid (0 ≤ y ∧ y < 65536) := by have := two_num r; rw [hx] at this; exact this
                rw [hx, hr] at hc
                refine hc.mono ?_
                rintro e wa ⟨rfl, hrr, hkk⟩
                have HPa : Hid (Ps W wa W.heap.size (W.heap.size + 1 + 1) (W.heap.size + 1) ra (⟨x0, x1, x2, x3, x4, x5, x6, R, l1, l, []⟩ : Mx.M) a) := HP.out.rd hrr hkk
                clear hc hx hr hrr hkk
                go_wp2_with fail
                have hc := H1.out _ _ _ HPa.out.rr HLra.out
                obtain ⟨z, hx⟩ : ∃ z, (Pq.one ra).1 = z := ⟨_, rfl⟩
                obtain ⟨rb, hr⟩ : ∃ z, (Pq.one ra).2 = z := ⟨_, rfl⟩
                have HLrb : Hid (rb.s.length ≤ 1000) := by show _ ≤ _; rw [← hr]; exact Nat.le_trans (one_len _) HLra.out
                have HErb : Hid (Pq.one ra = (z, rb)) := by rw [← hx, ← hr]; rfl
                have HNrb : Hid (0 ≤ z ∧ z < 256) := by have := one_num ra; rw [hx] at this; exact this
                rw [hx, hr] at hc
                refine hc.mono ?_
                rintro e wb ⟨rfl, hrr, hkk⟩
                have HPb : Hid (Ps W wb W.heap.size (W.heap.size + 1 + 1) (W.heap.size + 1) rb (⟨x0, x1, x2, x3, x4, x5, x6, R, l1, l, []⟩ : Mx.M) a) := HPa.out.rd hrr hkk
                clear hc hx hr hrr hkk
                obtain ⟨Y, hY⟩ : ∃ Y : Nat, (y % 4294967296).toNat = Y := ⟨_, rfl⟩
                have eY : IntKind.u32.wrap y = (Y : Int) := by rw [IntKind.wrap_u32, ← hY]; omega
                have HY : Hid ((y % 4294967296).toNat = Y) := hY
                clear hY HP HPa HNra HNrb HLra HLr cb hbad
                go_wp2_with fail
                have HP1 : Hid (Ps W wb.drew W.heap.size (W.heap.size + 1 + 1) (W.heap.size + 1) rb (⟨x0, x1, x2, x3, x4, x5, x6, R, l1, l, []⟩ : Mx.M) a) := HPb.out.on (Below.refl _ _).drew
                clear HPb
                refine wp_region_held_drew (S := fun _ => True) (by kernel_rfl) trivial (fun hHeld => ?_)
                clear hHeld
                refine Hl.takeL (i := 0) (d := 96) (v := ?_) rfl (by kernel_rfl) (by kernel_rfl) (by kernel_rfl) (fun _ _ _ h => h) (by rfl) ?_ trivial ?_
                rotate_left
                · intro w hSw; go_simp; (try with_reducible rfl)
                simp only [Act.put, List.setIfInBounds_toArray, List.set_cons_zero, List.set_cons_succ]
                refine Hl.takeL (i := 2) (d := 98) (v := ?_) rfl (by kernel_rfl) (by kernel_rfl) (by kernel_rfl) (fun _ _ _ h => h) (by rfl) ?_ trivial ?_
                rotate_left
                · intro w hSw; go_simp; (try with_reducible rfl)
                simp only [Act.put, List.setIfInBounds_toArray, List.set_cons_zero, List.set_cons_succ]
                refine Hl.takeL (i := 3) (d := 99) (v := ?_) rfl (by kernel_rfl) (by kernel_rfl) (by kernel_rfl) (fun _ _ _ h => h) (by rfl) ?_ trivial ?_
                rotate_left
                · intro w hSw; go_simp; (try with_reducible rfl)
                simp only [Act.put, List.setIfInBounds_toArray, List.set_cons_zero, List.set_cons_succ]
                refine Hl.takeL (i := 4) (d := 100) (v := ?_) rfl (by kernel_rfl) (by kernel_rfl) (by kernel_rfl) (fun _ _ _ h => h) (by rfl) ?_ trivial ?_
                rotate_left
                · intro w hSw; go_simp; (try with_reducible rfl)
                simp only [Act.put, List.setIfInBounds_toArray, List.set_cons_zero, List.set_cons_succ]
                refine Hl.takeL (i := 5) (d := 101) (v := ?_) rfl (by kernel_rfl) (by kernel_rfl) (by kernel_rfl) (fun _ _ _ h => h) (by rfl) ?_ trivial ?_
                rotate_left
                · intro w hSw; go_simp; (try with_reducible rfl)
                simp only [Act.put, List.setIfInBounds_toArray, List.set_cons_zero, List.set_cons_succ]
                refine Hl.consL2 (i := 1) (j := 6) rfl rfl (by kernel_rfl) (fun K' hK' => ?_) (fun K' hK' => ?_)
                · skip
                  have c9 : wb.drew.cell? ⟨W.heap.size + 1 + 1, 9, none⟩ = some (.slice a.s2 l.length a.c2) := HP1.out.rm.c 9 _ rfl
                  go_simp
                  refine hK'.out _ _ trivial (fun hHeld => ?_)
                  clear hK' K' hHeld
                  clear c9
                  refine Hl.consL (i := 6) rfl (by kernel_rfl) (fun K' hK' => ?_)
                  go_simp
                  have hc := H1.out _ _ _ HP1.out.rr HLrb.out
                  obtain ⟨q, hx⟩ : ∃ z, (Pq.one rb).1 = z := ⟨_, rfl⟩
                  obtain ⟨rc, hr⟩ : ∃ z, (Pq.one rb).2 = z := ⟨_, rfl⟩
                  have HLrc : Hid (rc.s.length ≤ 1000) := by show _ ≤ _; rw [← hr]; exact Nat.le_trans (one_len _) HLrb.out
                  have HErc : Hid (Pq.one rb = (q, rc)) := by rw [← hx, ← hr]; rfl
                  have HNrc : Hid (0 ≤ q ∧ q < 256) := by have := one_num rb; rw [hx] at this; exact this
                  rw [hx, hr] at hc
                  refine hc.mono ?_
                  rintro e w2 ⟨rfl, hrr, hkk⟩
                  have HP2 : Hid (Ps W w2 W.heap.size (W.heap.size + 1 + 1) (W.heap.size + 1) rc (⟨x0, x1, x2, x3, x4, x5, x6, R, l1, l, []⟩ : Mx.M) a) := HP1.out.rd hrr hkk
                  clear hc hx hr hrr hkk
                  try go_wp2_with fail
                  refine hK'.out _ _ trivial (fun hHeld => ?_)
                  clear hK' K' hHeld
                  refine Hl.takeL (i := 7) (d := 103) (v := ?_) rfl (by kernel_rfl) (by kernel_rfl) (by kernel_rfl) (fun _ _ _ h => h) (by rfl) ?_ trivial ?_
                  rotate_left
                  · intro w hSw; go_simp; (try with_reducible rfl)
                  simp only [Act.put, List.setIfInBounds_toArray, List.set_cons_zero, List.set_cons_succ]
                  refine Hl.takeL (i := 8) (d := 104) (v := ?_) rfl (by kernel_rfl) (by kernel_rfl) (by kernel_rfl) (fun _ _ _ h => h) (by rfl) ?_ trivial ?_
                  rotate_left
                  · intro w hSw; go_simp; (try with_reducible rfl)
                  simp only [Act.put, List.setIfInBounds_toArray, List.set_cons_zero, List.set_cons_succ]
                  refine Hl.consL (i := 9) rfl (by kernel_rfl) (fun K' hK' => ?_)
                  have HS : Hid (Src Tryd.prog 3 24 (.slice (some ⟨w2.heap.size, 0, none⟩) 1 1) 1 [.int .u32 (Y : Int), .int .i64 z, .bool (q == 1)] (w2.alloc (.cells [.int .u32 (Y : Int), .int .i64 z, .bool (q == 1)].toArray 49))) := Sg.src_new Tryd.underlying24 w2 49 3 1 _ rfl (fun u hu => by simp at hu; rcases hu with rfl | rfl | rfl <;> rfl)
                  have HP3 : Hid (Ps W (w2.alloc (.cells [.int .u32 (Y : Int), .int .i64 z, .bool (q == 1)].toArray 49)) W.heap.size (W.heap.size + 1 + 1) (W.heap.size + 1) rc (⟨x0, x1, x2, x3, x4, x5, x6, R, l1, l, []⟩ : Mx.M) a) := HP2.out.al _
                  go_simp
                  refine hK'.out _ _ trivial (fun hHeld => ?_)
                  clear hK' K' hHeld
                  refine Hl.consL (i := 10) rfl (by kernel_rfl) (fun K' hK' => ?_)
                  refine Sg.step_appendO elMsg rfl (.tmp 97) (.tmp 105) 24 rfl rfl rfl HP3.out.o2 HP3.out.bel.size HS.out (by have := HLl.out; show l.length + 1 ≤ 1000000; omega) ?_
                  intro s' c' n' w' hn h1 hkk
                  obtain ⟨ha, hf, hc⟩ := HP3.out.app2 (x := ⟨Y, z, q == 1⟩) h1 hn hkk
                  have HPn : Hid (Ps W _ W.heap.size (W.heap.size + 1 + 1) (W.heap.size + 1) rc (⟨x0, x1, x2, x3, x4, x5, x6, R, l1, (l ++ [⟨Y, z, q == 1⟩]), []⟩ : Mx.M) _) := ha
                  clear ha hn h1 hkk HS
                  refine hK'.out _ _ trivial (fun hHeld => ?_)
                  clear hK' K' hHeld
                  refine Hl.takeL (i := 11) (d := 107) (v := ?_) rfl (by kernel_rfl) (by kernel_rfl) (by kernel_rfl) (fun _ _ _ h => h) (by rfl) ?_ trivial ?_
                  rotate_left
                  · intro w hSw; go_simp; (try with_reducible rfl)
                  simp only [Act.put, List.setIfInBounds_toArray, List.set_cons_zero, List.set_cons_succ]
                  refine Hl.consL (i := 12) rfl (by kernel_rfl) (fun K' hK' => ?_)
                  go_simp
                  refine hK'.out _ _ trivial (fun hHeld => ?_)
                  clear hK' K' hHeld
                  refine wpAnyH_done (by kernel_rfl) ?_ _
                  have HDn : Hid (Md Pq.rMes n2 r11 (k + 1) (l ++ [⟨Y, z, q == 1⟩]) rc) := HD.out.step hkn HBd.out (by unfold Pq.rMes; simp only [HEra.out, HErb.out, HErc.out, HY.out])
                  clear hf hc
                  go_wp2_with fail
                  go_roundw
                  case rel => exact ⟨k + 1, _, _, _, by omega, rfl, HDn, HLrc, HPn⟩
                  case measure => simp only [intOf]; omega
                · skip
                  go_simp
                  have hc := H1.out _ _ _ HP1.out.rr HLrb.out
                  obtain ⟨q, hx⟩ : ∃ z, (Pq.one rb).1 = z := ⟨_, rfl⟩
                  obtain ⟨rc, hr⟩ : ∃ z, (Pq.one rb).2 = z := ⟨_, rfl⟩
                  have HLrc : Hid (rc.s.length ≤ 1000) := by show _ ≤ _; rw [← hr]; exact Nat.le_trans (one_len _) HLrb.out
                  have HErc : Hid (Pq.one rb = (q, rc)) := by rw [← hx, ← hr]; rfl
                  have HNrc : Hid (0 ≤ q ∧ q < 256) := by have := one_num rb; rw [hx] at this; exact this
                  rw [hx, hr] at hc
                  refine hc.mono ?_
                  rintro e w2 ⟨rfl, hrr, hkk⟩
                  have HP2 : Hid (Ps W w2 W.heap.size (W.heap.size + 1 + 1) (W.heap.size + 1) rc (⟨x0, x1, x2, x3, x4, x5, x6, R, l1, l, []⟩ : Mx.M) a) := HP1.out.rd hrr hkk
                  clear hc hx hr hrr hkk
                  try go_wp2_with fail
                  refine hK'.out _ _ trivial (fun hHeld => ?_)
                  clear hK' K' hHeld
                  refine Hl.takeL (i := 7) (d := 103) (v := ?_) rfl (by kernel_rfl) (by kernel_rfl) (by kernel_rfl) (fun _ _ _ h => h) (by rfl) ?_ trivial ?_
                  rotate_left
                  · intro w hSw; go_simp; (try with_reducible rfl)
                  simp only [Act.put, List.setIfInBounds_toArray, List.set_cons_zero, List.set_cons_succ]
                  refine Hl.takeL (i := 8) (d := 104) (v := ?_) rfl (by kernel_rfl) (by kernel_rfl) (by kernel_rfl) (fun _ _ _ h => h) (by rfl) ?_ trivial ?_
                  rotate_left
                  · intro w hSw; go_simp; (try with_reducible rfl)
                  simp only [Act.put, List.setIfInBounds_toArray, List.set_cons_zero, List.set_cons_succ]
                  refine Hl.consL2 (i := 1) (j := 9) rfl rfl (by kernel_rfl) (fun K' hK' => ?_) (fun K' hK' => ?_)
                  · skip
                    have c9 : w2.cell? ⟨W.heap.size + 1 + 1, 9, none⟩ = some (.slice a.s2 l.length a.c2) := HP2.out.rm.c 9 _ rfl
                    go_simp
                    refine hK'.out _ _ trivial (fun hHeld => ?_)
                    clear hK' K' hHeld
                    clear c9
                    refine Hl.consL (i := 9) rfl (by kernel_rfl) (fun K' hK' => ?_)
                    have HS : Hid (Src Tryd.prog 3 24 (.slice (some ⟨w2.heap.size, 0, none⟩) 1 1) 1 [.int .u32 (Y : Int), .int .i64 z, .bool (q == 1)] (w2.alloc (.cells [.int .u32 (Y : Int), .int .i64 z, .bool (q == 1)].toArray 49))) := Sg.src_new Tryd.underlying24 w2 49 3 1 _ rfl (fun u hu => by simp at hu; rcases hu with rfl | rfl | rfl <;> rfl)
                    have HP3 : Hid (Ps W (w2.alloc (.cells [.int .u32 (Y : Int), .int .i64 z, .bool (q == 1)].toArray 49)) W.heap.size (W.heap.size + 1 + 1) (W.heap.size + 1) rc (⟨x0, x1, x2, x3, x4, x5, x6, R, l1, l, []⟩ : Mx.M) a) := HP2.out.al _
                    go_simp
                    refine hK'.out _ _ trivial (fun hHeld => ?_)
                    clear hK' K' hHeld
                    refine Hl.consL (i := 10) rfl (by kernel_rfl) (fun K' hK' => ?_)
                    refine Sg.step_appendO elMsg rfl (.tmp 97) (.tmp 105) 24 rfl rfl rfl HP3.out.o2 HP3.out.bel.size HS.out (by have := HLl.out; show l.length + 1 ≤ 1000000; omega) ?_
                    intro s' c' n' w' hn h1 hkk
                    obtain ⟨ha, hf, hc⟩ := HP3.out.app2 (x := ⟨Y, z, q == 1⟩) h1 hn hkk
                    have HPn : Hid (Ps W _ W.heap.size (W.heap.size + 1 + 1) (W.heap.size + 1) rc (⟨x0, x1, x2, x3, x4, x5, x6, R, l1, (l ++ [⟨Y, z, q == 1⟩]), []⟩ : Mx.M) _) := ha
                    clear ha hn h1 hkk HS
                    refine hK'.out _ _ trivial (fun hHeld => ?_)
                    clear hK' K' hHeld
                    refine Hl.takeL (i := 11) (d := 107) (v := ?_) rfl (by kernel_rfl) (by kernel_rfl) (by kernel_rfl) (fun _ _ _ h => h) (by rfl) ?_ trivial ?_
                    rotate_left
                    · intro w hSw; go_simp; (try with_reducible rfl)
                    simp only [Act.put, List.setIfInBounds_toArray, List.set_cons_zero, List.set_cons_succ]
                    refine Hl.consL (i := 12) rfl (by kernel_rfl) (fun K' hK' => ?_)
                    go_simp
                    refine hK'.out _ _ trivial (fun hHeld => ?_)
                    clear hK' K' hHeld
                    refine wpAnyH_done (by kernel_rfl) ?_ _
                    have HDn : Hid (Md Pq.rMes n2 r11 (k + 1) (l ++ [⟨Y, z, q == 1⟩]) rc) := HD.out.step hkn HBd.out (by unfold Pq.rMes; simp only [HEra.out, HErb.out, HErc.out, HY.out])
                    clear hf hc
                    go_wp2_with fail
                    go_roundw
                    case rel => exact ⟨k + 1, _, _, _, by omega, rfl, HDn, HLrc, HPn⟩
                    case measure => simp only [intOf]; omega
                  · skip
                    have HS : Hid (Src Tryd.prog 3 24 (.slice (some ⟨w2.heap.size, 0, none⟩) 1 1) 1 [.int .u32 (Y : Int), .int .i64 z, .bool (q == 1)] (w2.alloc (.cells [.int .u32 (Y : Int), .int .i64 z, .bool (q == 1)].toArray 49))) := Sg.src_new Tryd.underlying24 w2 49 3 1 _ rfl (fun u hu => by simp at hu; rcases hu with rfl | rfl | rfl <;> rfl)
                    have HP3 : Hid (Ps W (w2.alloc (.cells [.int .u32 (Y : Int), .int .i64 z, .bool (q == 1)].toArray 49)) W.heap.size (W.heap.size + 1 + 1) (W.heap.size + 1) rc (⟨x0, x1, x2, x3, x4, x5, x6, R, l1, l, []⟩ : Mx.M) a) := HP2.out.al _
                    go_simp
                    refine hK'.out _ _ trivial (fun hHeld => ?_)
                    clear hK' K' hHeld
                    refine Hl.consL (i := 1) rfl (by kernel_rfl) (fun K' hK' => ?_)
                    have c9 : (w2.alloc (.cells [.int .u32 (Y : Int), .int .i64 z, .bool (q == 1)].toArray 49)).cell? ⟨W.heap.size + 1 + 1, 9, none⟩ = some (.slice a.s2 l.length a.c2) := HP3.out.rm.c 9 _ rfl
                    go_simp
                    refine hK'.out _ _ trivial (fun hHeld => ?_)
                    clear hK' K' hHeld
                    clear c9
                    refine Hl.consL (i := 10) rfl (by kernel_rfl) (fun K' hK' => ?_)
                    refine Sg.step_appendO elMsg rfl (.tmp 97) (.tmp 105) 24 rfl rfl rfl HP3.out.o2 HP3.out.bel.size HS.out (by have := HLl.out; show l.length + 1 ≤ 1000000; omega) ?_
                    intro s' c' n' w' hn h1 hkk
                    obtain ⟨ha, hf, hc⟩ := HP3.out.app2 (x := ⟨Y, z, q == 1⟩) h1 hn hkk
                    have HPn : Hid (Ps W _ W.heap.size (W.heap.size + 1 + 1) (W.heap.size + 1) rc (⟨x0, x1, x2, x3, x4, x5, x6, R, l1, (l ++ [⟨Y, z, q == 1⟩]), []⟩ : Mx.M) _) := ha
                    clear ha hn h1 hkk HS
                    refine hK'.out _ _ trivial (fun hHeld => ?_)
                    clear hK' K' hHeld
                    refine Hl.takeL (i := 11) (d := 107) (v := ?_) rfl (by kernel_rfl) (by kernel_rfl) (by kernel_rfl) (fun _ _ _ h => h) (by rfl) ?_ trivial ?_
                    rotate_left
                    · intro w hSw; go_simp; (try with_reducible rfl)
                    simp only [Act.put, List.setIfInBounds_toArray, List.set_cons_zero, List.set_cons_succ]
                    refine Hl.consL (i := 12) rfl (by kernel_rfl) (fun K' hK' => ?_)
                    go_simp
                    refine hK'.out _ _ trivial (fun hHeld => ?_)
                    clear hK' K' hHeld
                    refine wpAnyH_done (by kernel_rfl) ?_ _
                    have HDn : Hid (Md Pq.rMes n2 r11 (k + 1) (l ++ [⟨Y, z, q == 1⟩]) rc) := HD.out.step hkn HBd.out (by unfold Pq.rMes; simp only [HEra.out, HErb.out, HErc.out, HY.out])
                    clear hf hc
                    go_wp2_with fail
                    go_roundw
                    case rel => exact ⟨k + 1, _, _, _, by omega, rfl, HDn, HLrc, HPn⟩
                    case measure => simp only [intOf]; omega
              · rw [hbad] at cb
                have HS : Hid (Pq.many Pq.rMes n2 r11 = (l, r)) := HD.out.stop hk (Or.inr hbad)
                go_wp2_with fail
                go_meet
                case rel => exact ⟨l, r, a, HS, HLr, by show l.length ≤ 255; have := HLl.out; omega, HP⟩
            · have HS : Hid (Pq.many Pq.rMes n2 r11 = (l, r)) := HD.out.stop hk (Or.inl (by omega))
              have HLl : Hid (l.length = k) := HD.out.len
              have ki : ¬ ((k : Int) < (n2 : Int)) := by omega
              go_wp2_with fail
              go_meet
              case rel => exact ⟨l, r, a, HS, HLr, by show l.length ≤ 255; have := HLl.out; omega, HP⟩
        case rest =>
          obtain ⟨l2, r12, a2, HS2, HLr12, HLl2, HP12⟩ := hcut
          go_wp2_with fail
          have hc := H1.out _ _ _ HP12.out.rr HLr12.out
          obtain ⟨y3, hx⟩ : ∃ z, (Pq.one r12).1 = z := ⟨_, rfl⟩
          obtain ⟨r13, hr⟩ : ∃ z, (Pq.one r12).2 = z := ⟨_, rfl⟩
          have HLr13 : Hid (r13.s.length ≤ 1000) := by show _ ≤ _; rw [← hr]; exact Nat.le_trans (one_len _) HLr12.out
          have HEr13 : Hid (Pq.one r12 = (y3, r13)) := by rw [← hx, ← hr]; rfl
          have HNr13 : Hid (0 ≤ y3 ∧ y3 < 256) := by have := one_num r12; rw [hx] at this; exact this
          rw [hx, hr] at hc
          refine hc.mono ?_
          rintro e v13 ⟨rfl, hrr, hkk⟩
          have HP13 : Hid (Ps W v13 W.heap.size (W.heap.size + 1 + 1) (W.heap.size + 1) r13 (⟨x0, x1, x2, x3, x4, x5, x6, R, l1, l2, []⟩ : Mx.M) a2) := HP12.out.rd hrr hkk
          clear hc hx hr hrr hkk
          obtain ⟨n3, rfl⟩ := Int.eq_ofNat_of_zero_le HNr13.out.1
          have hn3 : (n3 : Int) < 256 := HNr13.out.2
          clear HNr13
          clear HP12 HLr12
          go_upto_block 4 with fail
          go_cut [11, 12] from 110 to 145 (fun _v11 _v12 wx => ∃ (l : List Mx.Win) (r : Pq.R) (a : Ma), Hid (Pq.many Pq.rWin n3 r13 = (l, r)) ∧ Hid (r.s.length ≤ 1000) ∧ Hid (l.length ≤ 255) ∧ Hid (Ps W wx W.heap.size (W.heap.size + 1 + 1) (W.heap.size + 1) r (⟨x0, x1, x2, x3, x4, x5, x6, R, l1, l2, l⟩ : Mx.M) a))
          case first =>
            go_wp2_with fail
            go_loopw [11, 12] (fun vi _v12 wr => ∃ (k : Nat) (l : List Mx.Win) (r : Pq.R) (a : Ma), k ≤ n3 ∧ vi = .int .i64 (k : Int) ∧ Hid (Md Pq.rWin n3 r13 k l r) ∧ Hid (r.s.length ≤ 1000) ∧ Hid (Ps W wr W.heap.size (W.heap.size + 1 + 1) (W.heap.size + 1) r (⟨x0, x1, x2, x3, x4, x5, x6, R, l1, l2, l⟩ : Mx.M) a)) (fun vi _v12 _ => n3 - (intOf vi).toNat)
            case atStart => exact ⟨0, [], r13, a2, Nat.zero_le _, rfl, Md.start _ _ _, HLr13, HP13⟩
            case round =>
              clear HP13 HLr13
              obtain ⟨k, l, r, a, hk, rfl, HD, HLr, HP⟩ := hrel
              have cb : wr.cell? ⟨W.heap.size + 1, 1, none⟩ = some (.bool r.bad) := HP.out.rr.c 1 _ rfl
              by_cases hkn : k < n3
              · have ki : (k : Int) < (n3 : Int) := by omega
                have HLl : Hid (l.length = k) := HD.out.len
                cases hbad : r.bad
                · rw [hbad] at cb
                  have kb : (k : Int) < 1000 := by omega
                  have HBd : Hid (r.bad = false) := hbad
                  go_wp2_with fail
                  have hc := H1.out _ _ _ HP.out.rr HLr.out
                  obtain ⟨y0, hx⟩ : ∃ z, (Pq.one r).1 = z := ⟨_, rfl⟩
                  obtain ⟨ra0, hr⟩ : ∃ z, (Pq.one r).2 = z := ⟨_, rfl⟩
                  have HLra0 : Hid (ra0.s.length ≤ 1000) := by show _ ≤ _; rw [← hr]; exact Nat.le_trans (one_len _) HLr.out
                  have HEra0 : Hid (Pq.one r = (y0, ra0)) := by rw [← hx, ← hr]; rfl
                  have HNra0 : Hid (0 ≤ y0 ∧ y0 < 256) := by have := one_num r; rw [hx] at this; exact this
                  rw [hx, hr] at hc
                  refine hc.mono ?_
                  rintro e wa0 ⟨rfl, hrr, hkk⟩
                  have HPa : Hid (Ps W wa0 W.heap.size (W.heap.size + 1 + 1) (W.heap.size + 1) ra0 (⟨x0, x1, x2, x3, x4, x5, x6, R, l1, l2, l⟩ : Mx.M) a) := HP.out.rd hrr hkk
                  clear hc hx hr hrr hkk
                  have HV0 : Hid (PsV W (wa0.alloc (.cells #[.int .i64 y0, .int .i64 0, .int .i64 0, .int .i64 0, .int .i64 0, .int .i64 0] 52)) W.heap.size (W.heap.size + 1 + 1) (W.heap.size + 1) ra0 (⟨x0, x1, x2, x3, x4, x5, x6, R, l1, l2, l⟩ : Mx.M) a wa0.heap.size #[.int .i64 y0, .int .i64 0, .int .i64 0, .int .i64 0, .int .i64 0, .int .i64 0]) := PsV.new HPa.out _
                  clear HP HPa HLr cb hbad HNra0
                  go_wp2_with fail
                  generalize wa0.alloc (.cells #[.int .i64 y0, .int .i64 0, .int .i64 0, .int .i64 0, .int .i64 0, .int .i64 0] 52) = wv0 at HV0 ⊢
                  generalize wa0.heap.size = g at HV0 ⊢
                  have hc := H2.out _ _ _ HV0.out.ps.rr HLra0.out
                  obtain ⟨y1, hx⟩ : ∃ z, (Pq.twoR ra0).1 = z := ⟨_, rfl⟩
                  obtain ⟨ra1, hr⟩ : ∃ z, (Pq.twoR ra0).2 = z := ⟨_, rfl⟩
                  have HLra1 : Hid (ra1.s.length ≤ 1000) := by show _ ≤ _; rw [← hr]; exact Nat.le_trans (two_len _) HLra0.out
                  have HEra1 : Hid (Pq.twoR ra0 = (y1, ra1)) := by rw [← hx, ← hr]; rfl
                  rw [hx, hr] at hc
                  refine hc.mono ?_
                  rintro e wa1 ⟨rfl, hrr, hkk⟩
                  have HU1 : Hid (PsV W wa1 W.heap.size (W.heap.size + 1 + 1) (W.heap.size + 1) ra1 (⟨x0, x1, x2, x3, x4, x5, x6, R, l1, l2, l⟩ : Mx.M) a g #[.int .i64 y0, .int .i64 0, .int .i64 0, .int .i64 0, .int .i64 0, .int .i64 0]) := HV0.out.rd hrr hkk
                  have HV1 : Hid (PsV W (wa1.setCell ⟨g, 1, none⟩ (.int .i64 y1)) W.heap.size (W.heap.size + 1 + 1) (W.heap.size + 1) ra1 (⟨x0, x1, x2, x3, x4, x5, x6, R, l1, l2, l⟩ : Mx.M) a g #[.int .i64 y0, .int .i64 y1, .int .i64 0, .int .i64 0, .int .i64 0, .int .i64 0]) := HU1.out.set 1 _
                  have fw := HU1.out.row.f 1
                  have cw : wa1.cell? ⟨g, 1, none⟩ = some (.int .i64 0) := HU1.out.row.c 1 _ rfl
                  clear hc hx hr hrr hkk HV0 HLra0 HU1
                  go_wp2_with fail
                  generalize wa1.setCell ⟨g, 1, none⟩ (.int .i64 y1) = wv1 at HV1 ⊢
                  clear fw cw
                  have hc := H2.out _ _ _ HV1.out.ps.rr HLra1.out
                  obtain ⟨y2, hx⟩ : ∃ z, (Pq.twoR ra1).1 = z := ⟨_, rfl⟩
                  obtain ⟨ra2, hr⟩ : ∃ z, (Pq.twoR ra1).2 = z := ⟨_, rfl⟩
                  have HLra2 : Hid (ra2.s.length ≤ 1000) := by show _ ≤ _; rw [← hr]; exact Nat.le_trans (two_len _) HLra1.out
                  have HEra2 : Hid (Pq.twoR ra1 = (y2, ra2)) := by rw [← hx, ← hr]; rfl
                  rw [hx, hr] at hc
                  refine hc.mono ?_
                  rintro e wa2 ⟨rfl, hrr, hkk⟩
                  have HU2 : Hid (PsV W wa2 W.heap.size (W.heap.size + 1 + 1) (W.heap.size + 1) ra2 (⟨x0, x1, x2, x3, x4, x5, x6, R, l1, l2, l⟩ : Mx.M) a g #[.int .i64 y0, .int .i64 y1, .int .i64 0, .int .i64 0, .int .i64 0, .int .i64 0]) := HV1.out.rd hrr hkk
                  have HV2 : Hid (PsV W (wa2.setCell ⟨g, 2, none⟩ (.int .i64 y2)) W.heap.size (W.heap.size + 1 + 1) (W.heap.size + 1) ra2 (⟨x0, x1, x2, x3, x4, x5, x6, R, l1, l2, l⟩ : Mx.M) a g #[.int .i64 y0, .int .i64 y1, .int .i64 y2, .int .i64 0, .int .i64 0, .int .i64 0]) := HU2.out.set 2 _
                  have fw := HU2.out.row.f 2
                  have cw : wa2.cell? ⟨g, 2, none⟩ = some (.int .i64 0) := HU2.out.row.c 2 _ rfl
                  clear hc hx hr hrr hkk HV1 HLra1 HU2
                  go_wp2_with fail
                  generalize wa2.setCell ⟨g, 2, none⟩ (.int .i64 y2) = wv2 at HV2 ⊢
                  clear fw cw
                  have hc := H1.out _ _ _ HV2.out.ps.rr HLra2.out
                  obtain ⟨y3, hx⟩ : ∃ z, (Pq.one ra2).1 = z := ⟨_, rfl⟩
                  obtain ⟨ra3, hr⟩ : ∃ z, (Pq.one ra2).2 = z := ⟨_, rfl⟩
                  have HLra3 : Hid (ra3.s.length ≤ 1000) := by show _ ≤ _; rw [← hr]; exact Nat.le_trans (one_len _) HLra2.out
                  have HEra3 : Hid (Pq.one ra2 = (y3, ra3)) := by rw [← hx, ← hr]; rfl
                  rw [hx, hr] at hc
                  refine hc.mono ?_
                  rintro e wa3 ⟨rfl, hrr, hkk⟩
                  have HU3 : Hid (PsV W wa3 W.heap.size (W.heap.size + 1 + 1) (W.heap.size + 1) ra3 (⟨x0, x1, x2, x3, x4, x5, x6, R, l1, l2, l⟩ : Mx.M) a g #[.int .i64 y0, .int .i64 y1, .int .i64 y2, .int .i64 0, .int .i64 0, .int .i64 0]) := HV2.out.rd hrr hkk
                  have HV3 : Hid (PsV W (wa3.setCell ⟨g, 3, none⟩ (.int .i64 y3)) W.heap.size (W.heap.size + 1 + 1) (W.heap.size + 1) ra3 (⟨x0, x1, x2, x3, x4, x5, x6, R, l1, l2, l⟩ : Mx.M) a g #[.int .i64 y0, .int .i64 y1, .int .i64 y2, .int .i64 y3, .int .i64 0, .int .i64 0]) := HU3.out.set 3 _
                  have fw := HU3.out.row.f 3
                  have cw : wa3.cell? ⟨g, 3, none⟩ = some (.int .i64 0) := HU3.out.row.c 3 _ rfl
                  clear hc hx hr hrr hkk HV2 HLra2 HU3
                  go_wp2_with fail
                  generalize wa3.setCell ⟨g, 3, none⟩ (.int .i64 y3) = wv3 at HV3 ⊢
                  clear fw cw
                  have hc := H1.out _ _ _ HV3.out.ps.rr HLra3.out
                  obtain ⟨y4, hx⟩ : ∃ z, (Pq.one ra3).1 = z := ⟨_, rfl⟩
                  obtain ⟨ra4, hr⟩ : ∃ z, (Pq.one ra3).2 = z := ⟨_, rfl⟩
                  have HLra4 : Hid (ra4.s.length ≤ 1000) := by show _ ≤ _; rw [← hr]; exact Nat.le_trans (one_len _) HLra3.out
                  have HEra4 : Hid (Pq.one ra3 = (y4, ra4)) := by rw [← hx, ← hr]; rfl
                  rw [hx, hr] at hc
                  refine hc.mono ?_
                  rintro e wa4 ⟨rfl, hrr, hkk⟩
                  have HU4 : Hid (PsV W wa4 W.heap.size (W.heap.size + 1 + 1) (W.heap.size + 1) ra4 (⟨x0, x1, x2, x3, x4, x5, x6, R, l1, l2, l⟩ : Mx.M) a g #[.int .i64 y0, .int .i64 y1, .int .i64 y2, .int .i64 y3, .int .i64 0, .int .i64 0]) := HV3.out.rd hrr hkk
                  have HV4 : Hid (PsV W (wa4.setCell ⟨g, 4, none⟩ (.int .i64 y4)) W.heap.size (W.heap.size + 1 + 1) (W.heap.size + 1) ra4 (⟨x0, x1, x2, x3, x4, x5, x6, R, l1, l2, l⟩ : Mx.M) a g #[.int .i64 y0, .int .i64 y1, .int .i64 y2, .int .i64 y3, .int .i64 y4, .int .i64 0]) := HU4.out.set 4 _
                  have fw := HU4.out.row.f 4
                  have cw : wa4.cell? ⟨g, 4, none⟩ = some (.int .i64 0) := HU4.out.row.c 4 _ rfl
                  clear hc hx hr hrr hkk HV3 HLra3 HU4
                  go_wp2_with fail
                  generalize wa4.setCell ⟨g, 4, none⟩ (.int .i64 y4) = wv4 at HV4 ⊢
                  clear fw cw
                  have hc := H1.out _ _ _ HV4.out.ps.rr HLra4.out
                  obtain ⟨y5, hx⟩ : ∃ z, (Pq.one ra4).1 = z := ⟨_, rfl⟩
                  obtain ⟨ra5, hr⟩ : ∃ z, (Pq.one ra4).2 = z := ⟨_, rfl⟩
                  have HLra5 : Hid (ra5.s.length ≤ 1000) := by show _ ≤ _; rw [← hr]; exact Nat.le_trans (one_len _) HLra4.out
                  have HEra5 : Hid (Pq.one ra4 = (y5, ra5)) := by rw [← hx, ← hr]; rfl
                  rw [hx, hr] at hc
                  refine hc.mono ?_
                  rintro e wa5 ⟨rfl, hrr, hkk⟩
                  have HU5 : Hid (PsV W wa5 W.heap.size (W.heap.size + 1 + 1) (W.heap.size + 1) ra5 (⟨x0, x1, x2, x3, x4, x5, x6, R, l1, l2, l⟩ : Mx.M) a g #[.int .i64 y0, .int .i64 y1, .int .i64 y2, .int .i64 y3, .int .i64 y4, .int .i64 0]) := HV4.out.rd hrr hkk
                  have HV5 : Hid (PsV W (wa5.setCell ⟨g, 5, none⟩ (.int .i64 y5)) W.heap.size (W.heap.size + 1 + 1) (W.heap.size + 1) ra5 (⟨x0, x1, x2, x3, x4, x5, x6, R, l1, l2, l⟩ : Mx.M) a g #[.int .i64 y0, .int .i64 y1, .int .i64 y2, .int .i64 y3, .int .i64 y4, .int .i64 y5]) := HU5.out.set 5 _
                  have fw := HU5.out.row.f 5
                  have cw : wa5.cell? ⟨g, 5, none⟩ = some (.int .i64 0) := HU5.out.row.c 5 _ rfl
                  clear hc hx hr hrr hkk HV4 HLra4 HU5
                  go_upto_region 35 with fail
                  generalize wa5.setCell ⟨g, 5, none⟩ (.int .i64 y5) = wv5 at HV5 ⊢
                  clear fw cw
                  have q0 : wv5.cell? ⟨g, 0, none⟩ = some (.int .i64 y0) := HV5.out.row.c 0 _ rfl
                  have q1 : wv5.cell? ⟨g, 1, none⟩ = some (.int .i64 y1) := HV5.out.row.c 1 _ rfl
                  have q2 : wv5.cell? ⟨g, 2, none⟩ = some (.int .i64 y2) := HV5.out.row.c 2 _ rfl
                  have q3 : wv5.cell? ⟨g, 3, none⟩ = some (.int .i64 y3) := HV5.out.row.c 3 _ rfl
                  have q4 : wv5.cell? ⟨g, 4, none⟩ = some (.int .i64 y4) := HV5.out.row.c 4 _ rfl
                  have q5 : wv5.cell? ⟨g, 5, none⟩ = some (.int .i64 y5) := HV5.out.row.c 5 _ rfl
                  have c10 : wv5.cell? ⟨W.heap.size + 1 + 1, 10, none⟩ = some (.slice a.s3 l.length a.c3) := HV5.out.ps.rm.c 10 _ rfl
                  have HS : Hid (Src Tryd.prog 6 25 (.slice (some ⟨wv5.heap.size, 0, none⟩) 1 1) 1 [.int .i64 y0, .int .i64 y1, .int .i64 y2, .int .i64 y3, .int .i64 y4, .int .i64 y5] (wv5.alloc (.cells [.int .i64 y0, .int .i64 y1, .int .i64 y2, .int .i64 y3, .int .i64 y4, .int .i64 y5].toArray 52))) := Sg.src_new Tryd.underlying25 wv5 52 6 1 _ rfl (fun u hu => by simp at hu; rcases hu with rfl | rfl | rfl | rfl | rfl | rfl <;> rfl)
                  have HPz : Hid (Ps W (wv5.alloc (.cells [.int .i64 y0, .int .i64 y1, .int .i64 y2, .int .i64 y3, .int .i64 y4, .int .i64 y5].toArray 52)) W.heap.size (W.heap.size + 1 + 1) (W.heap.size + 1) ra5 (⟨x0, x1, x2, x3, x4, x5, x6, R, l1, l2, l⟩ : Mx.M) a) := HV5.out.ps.al _
                  have HDn : Hid (Md Pq.rWin n3 r13 (k + 1) (l ++ [⟨y0, y1, y2, y3, y4, y5⟩]) ra5) := HD.out.step hkn HBd.out (by unfold Pq.rWin; simp only [HEra0.out, HEra1.out, HEra2.out, HEra3.out, HEra4.out, HEra5.out])
                  clear HV5
                  go_wp2_with (refine Sg.wpList_appendO elWin rfl (.tmp 141) (.tmp 143) 25 rfl rfl rfl HPz.out.o3 HPz.out.bel.size HS.out (by have := HLl.out; show l.length + 1 ≤ 1000000; omega) ?_; intro s' c' n' w' hn h1 hkk; obtain ⟨ha, hf, hc⟩ := HPz.out.app3 (x := ⟨y0, y1, y2, y3, y4, y5⟩) h1 hn hkk; have HPn : Hid (Ps W _ W.heap.size (W.heap.size + 1 + 1) (W.heap.size + 1) ra5 (⟨x0, x1, x2, x3, x4, x5, x6, R, l1, l2, (l ++ [⟨y0, y1, y2, y3, y4, y5⟩])⟩ : Mx.M) _) := ha; clear ha hn h1 hkk)
                  go_roundw
                  case rel => exact ⟨k + 1, _, _, _, by omega, rfl, HDn, HLra5, HPn⟩
                  case measure => simp only [intOf]; omega
                · rw [hbad] at cb
                  have HS : Hid (Pq.many Pq.rWin n3 r13 = (l, r)) := HD.out.stop hk (Or.inr hbad)
                  go_wp2_with fail
                  go_meet
                  case rel => exact ⟨l, r, a, HS, HLr, by show l.length ≤ 255; have := HLl.out; omega, HP⟩
              · have HS : Hid (Pq.many Pq.rWin n3 r13 = (l, r)) := HD.out.stop hk (Or.inl (by omega))
                have HLl : Hid (l.length = k) := HD.out.len
                have ki : ¬ ((k : Int) < (n3 : Int)) := by omega
                go_wp2_with fail
                go_meet
                case rel => exact ⟨l, r, a, HS, HLr, by show l.length ≤ 255; have := HLl.out; omega, HP⟩
          case rest =>
            obtain ⟨l3, r14, a3, HS3, HLr14, HLl3, HP14⟩ := hcut
            have HM : Hid (Pq.rM ⟨t, false⟩ = ((⟨x0, x1, x2, x3, x4, x5, x6, R, l1, l2, l3⟩ : Mx.M), r14)) := by
              show _ = _
              rw [HR0.out]
              unfold Pq.rM
              simp only [HEr1.out, HEr2.out, HEr3.out, HEr4.out, HEr5.out, HEr6.out, HEr7.out, HEr8.out, HRf.out, HEr9.out, Int.toNat_natCast, HS1.out, HEr11.out, HS2.out, HEr13.out, HS3.out]
            have HE := of_end HM.out
            have HSm : Hid (Mx.Small (⟨x0, x1, x2, x3, x4, x5, x6, R, l1, l2, l3⟩ : Mx.M)) := ⟨Nat.le_trans HLl1.out (by decide), Nat.le_trans HLl2.out (by decide), Nat.le_trans HLl3.out (by decide)⟩
            clear HS1 HS2 HS3 HEr1 HEr2 HEr3 HEr4 HEr5 HEr6 HEr7 HEr8 HEr9 HEr11 HEr13 HRf HR0 H1 H2 HM HLl1 HLl2 HLl3 HLr14
            have cb : wc.cell? ⟨W.heap.size + 1, 1, none⟩ = some (.bool r14.bad) := HP14.out.rr.c 1 _ rfl
            cases hbad : r14.bad
            · rw [hbad] at cb
              clear hbad
              have cm0 := HP14.out.rm.c 0 _ rfl
              have cm1 := HP14.out.rm.c 1 _ rfl
              have cm2 := HP14.out.rm.c 2 _ rfl
              have cm3 := HP14.out.rm.c 3 _ rfl
              have cm4 := HP14.out.rm.c 4 _ rfl
              have cm5 := HP14.out.rm.c 5 _ rfl
              have cm6 := HP14.out.rm.c 6 _ rfl
              have cm7 := HP14.out.rm.c 7 _ rfl
              have cm8 := HP14.out.rm.c 8 _ rfl
              have cm9 := HP14.out.rm.c 9 _ rfl
              have cm10 := HP14.out.rm.c 10 _ rfl
              go_wp2_with fail
              refine (HPr.out _ (⟨x0, x1, x2, x3, x4, x5, x6, R, l1, l2, l3⟩ : Mx.M) a3 HP14.out.mem HSm.out).mono ?_
              rintro e wp ⟨rfl, hbp⟩
              have HPp : Hid (Ps W wp W.heap.size (W.heap.size + 1 + 1) (W.heap.size + 1) r14 (⟨x0, x1, x2, x3, x4, x5, x6, R, l1, l2, l3⟩ : Mx.M) a3) := HP14.out.on hbp
              clear hbp HP14 cb cm0 cm1 cm2 cm3 cm4 cm5 cm6 cm7 cm8 cm9 cm10
              by_cases he : Pq.pr (⟨x0, x1, x2, x3, x4, x5, x6, R, l1, l2, l3⟩ : Mx.M) = 79 :: t
              · have HO : Hid (Pq.Of (79 :: t) (⟨x0, x1, x2, x3, x4, x5, x6, R, l1, l2, l3⟩ : Mx.M)) := HE.2.2 he
                rw [he]
                clear HE he
                have cm0 := HPp.out.rm.c 0 _ rfl
                have cm1 := HPp.out.rm.c 1 _ rfl
                have cm2 := HPp.out.rm.c 2 _ rfl
                have cm3 := HPp.out.rm.c 3 _ rfl
                have cm4 := HPp.out.rm.c 4 _ rfl
                have cm5 := HPp.out.rm.c 5 _ rfl
                have cm6 := HPp.out.rm.c 6 _ rfl
                have cm7 := HPp.out.rm.c 7 _ rfl
                have cm8 := HPp.out.rm.c 8 _ rfl
                have cm9 := HPp.out.rm.c 9 _ rfl
                have cm10 := HPp.out.rm.c 10 _ rfl
                go_wp2_with (refine wpList_store_row (P := Tryd.prog) rfl 27 (.tmp 2) (.tmp 157) rfl W.heap.size (mCs (⟨x0, x1, x2, x3, x4, x5, x6, R, l1, l2, l3⟩ : Mx.M) a3) rfl rfl 27 _ HPp.out.rz minfo13 rfl (mcs_one _ _) ?_)
                obtain ⟨hz, hmi, hbl⟩ := HPp.out.res (mCs (⟨x0, x1, x2, x3, x4, x5, x6, R, l1, l2, l3⟩ : Mx.M) a3)
                generalize wp.setRow W.heap.size (mCs (⟨x0, x1, x2, x3, x4, x5, x6, R, l1, l2, l3⟩ : Mx.M) a3) = wz at hz hmi hbl ⊢
                have z0 := hz.c 0 _ rfl
                have z1 := hz.c 1 _ rfl
                have z2 := hz.c 2 _ rfl
                have z3 := hz.c 3 _ rfl
                have z4 := hz.c 4 _ rfl
                have z5 := hz.c 5 _ rfl
                have z6 := hz.c 6 _ rfl
                have z7 := hz.c 7 _ rfl
                have z8 := hz.c 8 _ rfl
                have z9 := hz.c 9 _ rfl
                have z10 := hz.c 10 _ rfl
                exact bodyPost_ret (v := .tuple #[mV (⟨x0, x1, x2, x3, x4, x5, x6, R, l1, l2, l3⟩ : Mx.M) a3, .bool true]) (by simp [results, Tryd.results16, go_sem, mCs, z0, z1, z2, z3, z4, z5, z6, z7, z8, z9, z10]) rfl ⟨Or.inl ⟨_, _, HO.out, rfl, hmi⟩, hbl⟩
              · have HT : Hid (∀ n, ¬ Pq.Of (79 :: t) n) := HE.2.1 he
                obtain ⟨S, hS⟩ : ∃ S, Pq.pr (⟨x0, x1, x2, x3, x4, x5, x6, R, l1, l2, l3⟩ : Mx.M) = S := ⟨_, rfl⟩
                rw [hS] at he ⊢
                have hne : (S == (79 : UInt8) :: t) = false := beq_eq_false_iff_ne.2 he
                clear HE he hS
                go_wp2_with (refine wpList_store_row (P := Tryd.prog) rfl 27 (.tmp 2) (.tmp 156) rfl W.heap.size (mCs Mx.nil0 Ma.nil0) rfl rfl 27 _ HPp.out.rz minfo13 rfl (mcs_one _ _) ?_)
                obtain ⟨hz, hmi, hbl⟩ := HPp.out.res (mCs Mx.nil0 Ma.nil0)
                generalize wp.setRow W.heap.size (mCs Mx.nil0 Ma.nil0) = wz at hz hmi hbl ⊢
                have z0 := hz.c 0 _ rfl
                have z1 := hz.c 1 _ rfl
                have z2 := hz.c 2 _ rfl
                have z3 := hz.c 3 _ rfl
                have z4 := hz.c 4 _ rfl
                have z5 := hz.c 5 _ rfl
                have z6 := hz.c 6 _ rfl
                have z7 := hz.c 7 _ rfl
                have z8 := hz.c 8 _ rfl
                have z9 := hz.c 9 _ rfl
                have z10 := hz.c 10 _ rfl
                exact bodyPost_ret (v := .tuple #[mV Mx.nil0 Ma.nil0, .bool false]) (by simp [results, Tryd.results16, go_sem, mCs, z0, z1, z2, z3, z4, z5, z6, z7, z8, z9, z10]) rfl ⟨Or.inr ⟨HT.out, rfl⟩, hbl⟩
            · rw [hbad] at cb
              have HT : Hid (∀ n, ¬ Pq.Of (79 :: t) n) := HE.1 hbad
              clear hbad HE
              go_wp2_with (refine wpList_store_row (P := Tryd.prog) rfl 27 (.tmp 2) (.tmp 156) rfl W.heap.size (mCs Mx.nil0 Ma.nil0) rfl rfl 27 _ HP14.out.rz minfo13 rfl (mcs_one _ _) ?_)
              obtain ⟨hz, hmi, hbl⟩ := HP14.out.res (mCs Mx.nil0 Ma.nil0)
              generalize wc.setRow W.heap.size (mCs Mx.nil0 Ma.nil0) = wz at hz hmi hbl ⊢
              have z0 := hz.c 0 _ rfl
              have z1 := hz.c 1 _ rfl
              have z2 := hz.c 2 _ rfl
              have z3 := hz.c 3 _ rfl
              have z4 := hz.c 4 _ rfl
              have z5 := hz.c 5 _ rfl
              have z6 := hz.c 6 _ rfl
              have z7 := hz.c 7 _ rfl
              have z8 := hz.c 8 _ rfl
              have z9 := hz.c 9 _ rfl
              have z10 := hz.c 10 _ rfl
              exact bodyPost_ret (v := .tuple #[mV Mx.nil0 Ma.nil0, .bool false]) (by simp [results, Tryd.results16, go_sem, mCs, z0, z1, z2, z3, z4, z5, z6, z7, z8, z9, z10]) rfl ⟨Or.inr ⟨HT.out, rfl⟩, hbl⟩
    · have HT : Hid (∀ m, ¬ Pq.Of (x :: t) m) := fun m h => by
        obtain ⟨t', e⟩ := (of_front h).2.2
        exact hx (List.cons.inj e).1
      have hx2 : x.toNat ≠ 79 := fun e => hx (UInt8.toNat_inj.1 e)
      obtain ⟨X, hX⟩ : ∃ X, x.toNat = X := ⟨_, rfl⟩
      have hx0 : (⟨(x :: t).toArray⟩ : ByteArray)[0].toNat = X := hX
      have hx1 : ((X : Int) == 79) = false := beq_eq_false_iff_ne.2 (by omega)
      have hx3 : ((X : Int) != 79) = true := by unfold bne; rw [hx1]; rfl
      clear hx hx2 hX
      go_enter Tryd.func16, Tryd.ntmps16
      go_wp2
      exact bodyPost_ret (v := .tuple #[mV Mx.nil0 Ma.nil0, .bool false]) (by simp [results, Tryd.results16, go_sem, mCs, Mx.nil0, Ma.nil0]) rfl ⟨Or.inr ⟨HT.out, rfl⟩, (Below.refl _ _).alloc (Nat.le_refl _) _⟩
end Go.Proofs.YtcdalfhmmipiaaaDoor
