/- Package config, over the landed code: all of a matrix read. -/
import Derived.Test.YtcdalfhmmipiaaaDoorPg
import Derived.Test.YtcdalfhmmipiaaaDoorP5
import Derived.Test.YtcdalfhmmipiaaaDoorHl
import Derived.WalkMore
namespace Go.Proofs.YtcdalfhmmipiaaaDoor
open Go.RowKit Go.WideShapes
set_option linter.unusedVariables false
theorem Sg.OL.ge {e : TypeId} {sz B : Nat} {w : World} {s : Option Addr} {c n : Nat} {C : List Value} (h : Sg.OL e sz B w s c n C) : ∀ g, Sg.At_ s c g → B ≤ g := fun g ⟨h0, e1⟩ => by
  obtain ⟨g1, o, cur, e2, hB, hh⟩ := h.ty h0
  rw [e2] at e1
  injection e1 with e1
  dsimp only at e1
  subst e1
  exact hB
theorem Md.bad {α : Type} {f : Pq.R → α × Pq.R} {g : α → List UInt8} (hA : ∀ r, Pq.Ate r (f r).2 (g (f r).1)) {n k : Nat} {r1 r : Pq.R} {l : List α} (h : Md f n r1 k l r) (hk : k < n) {x : α} {r' : Pq.R} (he : f r = (x, r')) (hb : r'.bad = true) : (Pq.many f n r1).2.bad = true := by
  cases hr : r.bad
  · rw [(h.step hk hr he).stop (by omega) (Or.inr hb)]; exact hb
  · rw [h.stop (by omega) (Or.inr hr)]; exact hr
theorem Md.go {α : Type} {f : Pq.R → α × Pq.R} {g : α → List UInt8} (hA : ∀ r, Pq.Ate r (f r).2 (g (f r).1)) {n k : Nat} {r1 r : Pq.R} {l : List α} (h : Md f n r1 k l r) (hk : k < n) {x : α} {r' : Pq.R} (he : f r = (x, r')) (hb : r'.bad = false) : Md f n r1 (k + 1) (l ++ [x]) r' := by
  have := hA r
  rw [he] at this
  exact h.step hk (this hb).1 he
theorem mes_len2 (r : Pq.R) : (Pq.lMes r).2.s.length ≤ r.s.length := Nat.le_trans (flag_len _) (Nat.le_trans (one_len _) (two_len _))
theorem win_len2 (r : Pq.R) : (Pq.rWin r).2.s.length ≤ r.s.length := Nat.le_trans (one_len _) (Nat.le_trans (one_len _) (Nat.le_trans (one_len _) (Nat.le_trans (two_len _) (Nat.le_trans (two_len _) (one_len _)))))
theorem head_len2 (r : Pq.R) : (Pq.lHead r).2.s.length ≤ r.s.length := Nat.le_trans (two_len _) (Nat.le_trans (two_len _) (Nat.le_trans (one_len _) (Nat.le_trans (one_len _) (Nat.le_trans (two_len _) (Nat.le_trans (one_len _) (Nat.le_trans (one_len _) (Nat.le_trans (one_len _) (one_len _))))))))
/-- Lists of one's own. -/
structure Ow3 (B : Nat) (w : World) (m : Mx.M) (a : Ma) : Prop where
  o1 : Sg.OL 3 1 B w a.s1 a.c1 m.masters.length (m.masters.flatMap mC1)
  o2 : Sg.OL 49 3 B w a.s2 a.c2 m.messages.length (m.messages.flatMap mC2)
  o3 : Sg.OL 52 6 B w a.s3 a.c3 m.windows.length (m.windows.flatMap mC3)
theorem Ow3.mem {B : Nat} {w : World} {m : Mx.M} {a : Ma} (h : Ow3 B w m a) : MIn w m a := ⟨h.o1.sl.li, h.o2.sl.li, h.o3.sl.li⟩
theorem Ow3.on {B : Nat} {w w' : World} {m : Mx.M} {a : Ma} (h : Ow3 B w m a) (hb : Below w.heap.size w w') : Ow3 B w' m a := ⟨h.o1.on hb, h.o2.on hb, h.o3.on hb⟩
/-- While a matrix is read: the result, the matrix so far, the reader, three lists. -/
structure Ag (W w : World) (q p2 pm : Nat) (r : Pq.R) (m : Mx.M) (a : Ma) : Prop where
  kep : Kept (fun j => j = q) W w
  b2 : W.heap.size ≤ p2
  bm : W.heap.size ≤ pm
  ne : p2 ≠ pm
  rz : RowT 27 w p2 (mCs Mx.nil0 Ma.nil0)
  rm : RowT 27 w pm (mCs m a)
  rr : RowT 55 w q (rC r)
  o1 : Sg.OL 3 1 W.heap.size w a.s1 a.c1 m.masters.length (m.masters.flatMap mC1)
  o2 : Sg.OL 49 3 W.heap.size w a.s2 a.c2 m.messages.length (m.messages.flatMap mC2)
  o3 : Sg.OL 52 6 W.heap.size w a.s3 a.c3 m.windows.length (m.windows.flatMap mC3)
section
variable {W w w' : World} {q p2 pm : Nat} {r r' : Pq.R} {m : Mx.M} {a : Ma}
theorem Ag.on (h : Ag W w q p2 pm r m a) (hb : Below w.heap.size w w') : Ag W w' q p2 pm r m a := ⟨h.kep.trans (Kept.of_below (F := fun _ => False) hb) (fun g hg => hg.elim), h.b2, h.bm, h.ne, h.rz.on hb, h.rm.on hb, h.rr.on hb, h.o1.on hb, h.o2.on hb, h.o3.on hb⟩
theorem Ag.al (h : Ag W w q p2 pm r m a) (o : Obj) : Ag W (w.alloc o) q p2 pm r m a := h.on ((Below.refl _ _).alloc (Nat.le_refl _) _)
theorem Ag.mem (h : Ag W w q p2 pm r m a) : MIn w m a := ⟨h.o1.sl.li, h.o2.sl.li, h.o3.sl.li⟩
theorem Ag.rd (h : Ag W w q p2 pm r m a) (hr : RowT 55 w' q (rC r')) (hk : Kept (fun j => j = q) w w') : Ag W w' q p2 pm r' m a :=
  ⟨h.kep.trans hk (fun g hg => Or.inl hg), h.b2, h.bm, h.ne, h.rz.kept hk (row_ne h.rz h.rr (by decide)), h.rm.kept hk (row_ne h.rm h.rr (by decide)), hr,
    h.o1.kept hk (fun g hg e => by subst e; exact h.o1.ne h.rr (by decide) hg), h.o2.kept hk (fun g hg e => by subst e; exact h.o2.ne h.rr (by decide) hg), h.o3.kept hk (fun g hg e => by subst e; exact h.o3.ne h.rr (by decide) hg)⟩
theorem Ag.app1 {s' : Option Addr} {c' n' : Nat} {x : Int} (h : Ag W w q p2 pm r m a) (h1 : Sg.OL 3 1 W.heap.size w' s' c' n' (m.masters.flatMap mC1 ++ mC1 x)) (hn : n' = m.masters.length + 1) (hk : Kept (Sg.At_ a.s1 a.c1) w w') :
    Ag W (w'.setCell ⟨pm, 8, none⟩ (.slice s' n' c')) q p2 pm r { m with masters := m.masters ++ [x] } { a with s1 := s', c1 := c' } ∧ w'.frozen? ⟨pm, 8, none⟩ = false ∧ w'.cell? ⟨pm, 8, none⟩ = some (.slice a.s1 m.masters.length a.c1) := by
  subst hn
  have rm' : RowT 27 w' pm (mCs m a) := h.o1.row hk h.rm (by decide)
  have rz' := h.o1.row hk h.rz (by decide)
  have rr' := h.o1.row hk h.rr (by decide)
  have o2' := h.o2.kept hk (h.o2.ne2 h.o1 (by decide))
  have o3' := h.o3.kept hk (h.o3.ne2 h.o1 (by decide))
  have hk8 : Kept (fun j => j = pm) w' (w'.setCell ⟨pm, 8, none⟩ (.slice s' (m.masters.length + 1) c')) := Kept.set _ _ _ rfl
  have hb := (h.kep.trans hk (fun g hg => Or.inr (h.o1.ge g hg))).trans hk8 (fun g hg => Or.inr (by rw [hg]; exact h.bm))
  have on : Sg.OL 3 1 W.heap.size w' s' c' (m.masters ++ [x]).length ((m.masters ++ [x]).flatMap mC1) := by
    rw [List.length_append, List.flatMap_append]
    simpa using h1
  have on' := on.kept hk8 (fun g hg e => by subst e; exact on.ne rm' (by decide) hg)
  have oj := o2'.kept hk8 (fun g hg e => by subst e; exact o2'.ne rm' (by decide) hg)
  have ol := o3'.kept hk8 (fun g hg e => by subst e; exact o3'.ne rm' (by decide) hg)
  refine ⟨⟨hb, h.b2, h.bm, h.ne, rz'.kept hk8 h.ne, ?_, rr'.kept hk8 (row_ne rr' rm' (by decide)), on', oj, ol⟩, rm'.f 8, rm'.c 8 _ rfl⟩
  have e : (mCs m a).setIfInBounds 8 (.slice s' (m.masters.length + 1) c') = mCs { m with masters := m.masters ++ [x] } { a with s1 := s', c1 := c' } := by unfold mCs; simp
  rw [← e]
  exact rm'.set 8 _
theorem Ag.app2 {s' : Option Addr} {c' n' : Nat} {x : Mx.Msg} (h : Ag W w q p2 pm r m a) (h1 : Sg.OL 49 3 W.heap.size w' s' c' n' (m.messages.flatMap mC2 ++ mC2 x)) (hn : n' = m.messages.length + 1) (hk : Kept (Sg.At_ a.s2 a.c2) w w') :
    Ag W (w'.setCell ⟨pm, 9, none⟩ (.slice s' n' c')) q p2 pm r { m with messages := m.messages ++ [x] } { a with s2 := s', c2 := c' } ∧ w'.frozen? ⟨pm, 9, none⟩ = false ∧ w'.cell? ⟨pm, 9, none⟩ = some (.slice a.s2 m.messages.length a.c2) := by
  subst hn
  have rm' : RowT 27 w' pm (mCs m a) := h.o2.row hk h.rm (by decide)
  have rz' := h.o2.row hk h.rz (by decide)
  have rr' := h.o2.row hk h.rr (by decide)
  have o1' := h.o1.kept hk (h.o1.ne2 h.o2 (by decide))
  have o3' := h.o3.kept hk (h.o3.ne2 h.o2 (by decide))
  have hk8 : Kept (fun j => j = pm) w' (w'.setCell ⟨pm, 9, none⟩ (.slice s' (m.messages.length + 1) c')) := Kept.set _ _ _ rfl
  have hb := (h.kep.trans hk (fun g hg => Or.inr (h.o2.ge g hg))).trans hk8 (fun g hg => Or.inr (by rw [hg]; exact h.bm))
  have on : Sg.OL 49 3 W.heap.size w' s' c' (m.messages ++ [x]).length ((m.messages ++ [x]).flatMap mC2) := by
    rw [List.length_append, List.flatMap_append]
    simpa using h1
  have on' := on.kept hk8 (fun g hg e => by subst e; exact on.ne rm' (by decide) hg)
  have oj := o1'.kept hk8 (fun g hg e => by subst e; exact o1'.ne rm' (by decide) hg)
  have ol := o3'.kept hk8 (fun g hg e => by subst e; exact o3'.ne rm' (by decide) hg)
  refine ⟨⟨hb, h.b2, h.bm, h.ne, rz'.kept hk8 h.ne, ?_, rr'.kept hk8 (row_ne rr' rm' (by decide)), oj, on', ol⟩, rm'.f 9, rm'.c 9 _ rfl⟩
  have e : (mCs m a).setIfInBounds 9 (.slice s' (m.messages.length + 1) c') = mCs { m with messages := m.messages ++ [x] } { a with s2 := s', c2 := c' } := by unfold mCs; simp
  rw [← e]
  exact rm'.set 9 _
theorem Ag.app3 {s' : Option Addr} {c' n' : Nat} {x : Mx.Win} (h : Ag W w q p2 pm r m a) (h1 : Sg.OL 52 6 W.heap.size w' s' c' n' (m.windows.flatMap mC3 ++ mC3 x)) (hn : n' = m.windows.length + 1) (hk : Kept (Sg.At_ a.s3 a.c3) w w') :
    Ag W (w'.setCell ⟨pm, 10, none⟩ (.slice s' n' c')) q p2 pm r { m with windows := m.windows ++ [x] } { a with s3 := s', c3 := c' } ∧ w'.frozen? ⟨pm, 10, none⟩ = false ∧ w'.cell? ⟨pm, 10, none⟩ = some (.slice a.s3 m.windows.length a.c3) := by
  subst hn
  have rm' : RowT 27 w' pm (mCs m a) := h.o3.row hk h.rm (by decide)
  have rz' := h.o3.row hk h.rz (by decide)
  have rr' := h.o3.row hk h.rr (by decide)
  have o1' := h.o1.kept hk (h.o1.ne2 h.o3 (by decide))
  have o2' := h.o2.kept hk (h.o2.ne2 h.o3 (by decide))
  have hk8 : Kept (fun j => j = pm) w' (w'.setCell ⟨pm, 10, none⟩ (.slice s' (m.windows.length + 1) c')) := Kept.set _ _ _ rfl
  have hb := (h.kep.trans hk (fun g hg => Or.inr (h.o3.ge g hg))).trans hk8 (fun g hg => Or.inr (by rw [hg]; exact h.bm))
  have on : Sg.OL 52 6 W.heap.size w' s' c' (m.windows ++ [x]).length ((m.windows ++ [x]).flatMap mC3) := by
    rw [List.length_append, List.flatMap_append]
    simpa using h1
  have on' := on.kept hk8 (fun g hg e => by subst e; exact on.ne rm' (by decide) hg)
  have oj := o1'.kept hk8 (fun g hg e => by subst e; exact o1'.ne rm' (by decide) hg)
  have ol := o2'.kept hk8 (fun g hg e => by subst e; exact o2'.ne rm' (by decide) hg)
  refine ⟨⟨hb, h.b2, h.bm, h.ne, rz'.kept hk8 h.ne, ?_, rr'.kept hk8 (row_ne rr' rm' (by decide)), oj, ol, on'⟩, rm'.f 10, rm'.c 10 _ rfl⟩
  have e : (mCs m a).setIfInBounds 10 (.slice s' (m.windows.length + 1) c') = mCs { m with windows := m.windows ++ [x] } { a with s3 := s', c3 := c' } := by unfold mCs; simp
  rw [← e]
  exact rm'.set 10 _
theorem Ag.res (h : Ag W w q p2 pm r m a) (cs : Array Value) : RowT 27 (w.setRow p2 cs) p2 cs ∧ RowT 55 (w.setRow p2 cs) q (rC r) ∧ Ow3 W.heap.size (w.setRow p2 cs) m a ∧ Kept (fun j => j = q) W (w.setRow p2 cs) := by
  have hk : Kept (fun j => j = p2) w (w.setRow p2 cs) := ⟨rfl, rfl, rfl, by simp [World.setRow], fun k _ hk => setRow_other w p2 k _ (fun e => hk (by omega))⟩
  have o1 := h.o1.kept hk (fun j hj e => by subst e; exact h.o1.ne h.rz (by decide) hj)
  have o2 := h.o2.kept hk (fun j hj e => by subst e; exact h.o2.ne h.rz (by decide) hj)
  have o3 := h.o3.kept hk (fun j hj e => by subst e; exact h.o3.ne h.rz (by decide) hj)
  exact ⟨setRow_heap _ _ _ _ _ _ h.rz, h.rr.kept hk (row_ne h.rr h.rz (by decide)), ⟨o1, o2, o3⟩, h.kep.trans hk (fun g hg => Or.inr (by rw [hg]; exact h.b2))⟩
end
/-- What was read of all: it, or it went bad. -/
def Fin4 (r0 : Pq.R) (m : Mx.M) (r : Pq.R) : Prop := (r.bad = true ∧ (Pq.lM r0).2.bad = true) ∨ Pq.lM r0 = (m, r)
set_option maxRecDepth 100000 in
set_option maxHeartbeats 8000000 in
theorem rd_all (W : World) (q : Nat) (r0 : Pq.R) (h : RowT 55 W q (rC r0)) (hl : r0.s.length ≤ 1000) : Calls Tryd.prog 24 #[Ob.ptr q] W fun e w' => ∃ m a r, e = .returned (mV m a) ∧ Fin4 r0 m r ∧ RowT 55 w' q (rC r) ∧ Ow3 W.heap.size w' m a ∧ Mx.Small m ∧ Kept (fun j => j = q) W w' := by
  have C1 : Hid (∀ (w : World) (r : Pq.R), RowT 55 w q (rC r) → r.s.length ≤ 1000 → Calls Tryd.prog 41 #[Ob.ptr q] w (Told4 w q (.int .i64 (Pq.one r).1) (Pq.one r).2)) := fun w r => rd_one w q r
  have C2 : Hid (∀ (w : World) (r : Pq.R), RowT 55 w q (rC r) → r.s.length ≤ 1000 → Calls Tryd.prog 42 #[Ob.ptr q] w (Told4 w q (.agg #[.int .u32 ((Pq.lMes r).1.id : Int), .int .i64 (Pq.lMes r).1.owner, .bool (Pq.lMes r).1.event]) (Pq.lMes r).2)) := fun w r => rd_message w q r
  have C3 : Hid (∀ (w : World) (r : Pq.R), RowT 55 w q (rC r) → r.s.length ≤ 1000 → Calls Tryd.prog 43 #[Ob.ptr q] w (Told4 w q (.agg #[.int .i64 (Pq.rWin r).1.kind, .int .i64 (Pq.rWin r).1.start, .int .i64 (Pq.rWin r).1.fin, .int .i64 (Pq.rWin r).1.cycle, .int .i64 (Pq.rWin r).1.rep, .int .i64 (Pq.rWin r).1.msg]) (Pq.rWin r).2)) := fun w r => rd_window w q r
  have hal : Below W.heap.size W (W.alloc (.cells #[.int .i64 0, .int .i64 0, .int .i64 0, .int .i64 0, .int .i64 0, .int .i64 0, .int .i64 0, .int .u32 0, .slice none 0 0, .slice none 0 0, .slice none 0 0] 27)) := (Below.refl _ _).alloc (Nat.le_refl _) _
  obtain ⟨x0, x1, x2, x3, x4, x5, x6, R, hH⟩ : ∃ x0 x1 x2 x3 x4 x5 x6 R, (Pq.lHead r0).1 = (⟨x0, x1, x2, x3, x4, x5, x6, R, [], [], []⟩ : Mx.M) := ⟨_, _, _, _, _, _, _, _, rfl⟩
  obtain ⟨rh, hR⟩ : ∃ z, (Pq.lHead r0).2 = z := ⟨_, rfl⟩
  have HH : Hid (Pq.lHead r0 = ((⟨x0, x1, x2, x3, x4, x5, x6, R, [], [], []⟩ : Mx.M), rh)) := by rw [← hH, ← hR]; rfl
  have HLh : Hid (rh.s.length ≤ 1000) := by show _ ≤ _; rw [← hR]; exact Nat.le_trans (head_len2 _) hl
  have H0 : Hid (Calls Tryd.prog 40 #[Ob.ptr q] (W.alloc (.cells #[.int .i64 0, .int .i64 0, .int .i64 0, .int .i64 0, .int .i64 0, .int .i64 0, .int .i64 0, .int .u32 0, .slice none 0 0, .slice none 0 0, .slice none 0 0] 27)) (Told4 (W.alloc (.cells #[.int .i64 0, .int .i64 0, .int .i64 0, .int .i64 0, .int .i64 0, .int .i64 0, .int .i64 0, .int .u32 0, .slice none 0 0, .slice none 0 0, .slice none 0 0] 27)) q (.agg #[.int .i64 x0, .int .i64 x1, .int .i64 x2, .int .i64 x3, .int .i64 x4, .int .i64 x5, .int .i64 x6, .int .u32 (R : Int), .slice none 0 0, .slice none 0 0, .slice none 0 0]) rh)) := by
    have := rd_head _ q r0 (h.on hal) hl
    rw [hH, hR] at this
    exact this
  have HZ : Hid (RowT 27 (W.alloc (.cells #[.int .i64 0, .int .i64 0, .int .i64 0, .int .i64 0, .int .i64 0, .int .i64 0, .int .i64 0, .int .u32 0, .slice none 0 0, .slice none 0 0, .slice none 0 0] 27)) W.heap.size #[.int .i64 0, .int .i64 0, .int .i64 0, .int .i64 0, .int .i64 0, .int .i64 0, .int .i64 0, .int .u32 0, .slice none 0 0, .slice none 0 0, .slice none 0 0]) := RowT.new _ _ _
  have HA : Hid (Kept (fun j => j = q) W (W.alloc (.cells #[.int .i64 0, .int .i64 0, .int .i64 0, .int .i64 0, .int .i64 0, .int .i64 0, .int .i64 0, .int .u32 0, .slice none 0 0, .slice none 0 0, .slice none 0 0] 27))) := Kept.of_below hal
  have HQ : Hid (q < W.heap.size) := h.lt
  clear h hl hal hH hR
  go_enter Tryd.func24, Tryd.ntmps24
  go_wp2_with fail
  go_step3
  go_wp2_with fail
  refine H0.out.mono ?_
  rintro e w1 ⟨rfl, hr1, hk1⟩
  have HP0 : Hid (Ag W (w1.alloc (.cells #[.int .i64 x0, .int .i64 x1, .int .i64 x2, .int .i64 x3, .int .i64 x4, .int .i64 x5, .int .i64 x6, .int .u32 (R : Int), .slice none 0 0, .slice none 0 0, .slice none 0 0] 27)) q W.heap.size w1.heap.size rh (⟨x0, x1, x2, x3, x4, x5, x6, R, [], [], []⟩ : Mx.M) Ma.nil0) := by
    have hz1 : RowT 27 w1 W.heap.size #[.int .i64 0, .int .i64 0, .int .i64 0, .int .i64 0, .int .i64 0, .int .i64 0, .int .i64 0, .int .u32 0, .slice none 0 0, .slice none 0 0, .slice none 0 0] := HZ.out.kept hk1 (fun e => by have := HQ.out; omega)
    have hk2 : Kept (fun j => j = q) W w1 := HA.out.trans hk1 (fun g hg => Or.inl hg)
    have hal : Below w1.heap.size w1 (w1.alloc (.cells #[.int .i64 x0, .int .i64 x1, .int .i64 x2, .int .i64 x3, .int .i64 x4, .int .i64 x5, .int .i64 x6, .int .u32 (R : Int), .slice none 0 0, .slice none 0 0, .slice none 0 0] 27)) := (Below.refl _ _).alloc (Nat.le_refl _) _
    exact ⟨hk2.trans (Kept.of_below (F := fun _ => False) hal) (fun g hg => hg.elim), Nat.le_refl _, hk2.size, Nat.ne_of_lt hz1.lt, hz1.on hal, RowT.new _ _ _, hr1.on hal, Sg.OL.nil _ _ _ _, Sg.OL.nil _ _ _ _, Sg.OL.nil _ _ _ _⟩
  clear hr1 hk1 H0 HZ HA HQ
  go_wp2_with fail
  go_step3
  generalize w1.alloc (.cells #[.int .i64 x0, .int .i64 x1, .int .i64 x2, .int .i64 x3, .int .i64 x4, .int .i64 x5, .int .i64 x6, .int .u32 (R : Int), .slice none 0 0, .slice none 0 0, .slice none 0 0] 27) = v0 at HP0 ⊢
  generalize w1.heap.size = pm at HP0 ⊢
  go_upto_block 0 with fail
  go_cut [4] from 7 to 47 (fun _v4 wx => ∃ (m : Mx.M) (a : Ma) (r : Pq.R), Hid (Ag W wx q W.heap.size pm r m a) ∧ Hid (Fin4 r0 m r) ∧ Hid (Mx.Small m))
  case first =>
    go_wp2_with fail
    go_loopw [7, 4] (fun vi _v wr => (vi = .int .i64 0 ∧ ∃ r a, Hid (Ag W wr q W.heap.size pm r (⟨x0, x1, x2, x3, x4, x5, x6, R, [], [], []⟩ : Mx.M) a) ∧ Hid (r.s.length ≤ 1000) ∧ Hid (Pq.lHead r0 = ((⟨x0, x1, x2, x3, x4, x5, x6, R, [], [], []⟩ : Mx.M), r))) ∨ (vi = .int .i64 1 ∧ ∃ r a l1, Hid (Ag W wr q W.heap.size pm r (⟨x0, x1, x2, x3, x4, x5, x6, R, l1, [], []⟩ : Mx.M) a) ∧ Hid (r.s.length ≤ 1000) ∧ Hid (Pq.lM1 (Pq.lHead r0) = ((⟨x0, x1, x2, x3, x4, x5, x6, R, l1, [], []⟩ : Mx.M), r)) ∧ Hid (l1.length ≤ 255)) ∨ (vi = .int .i64 2 ∧ ∃ r a l1 l2, Hid (Ag W wr q W.heap.size pm r (⟨x0, x1, x2, x3, x4, x5, x6, R, l1, l2, []⟩ : Mx.M) a) ∧ Hid (r.s.length ≤ 1000) ∧ Hid (Pq.lM2 (Pq.lM1 (Pq.lHead r0)) = ((⟨x0, x1, x2, x3, x4, x5, x6, R, l1, l2, []⟩ : Mx.M), r)) ∧ Hid (l1.length ≤ 255) ∧ Hid (l2.length ≤ 255)) ∨ (vi = .int .i64 3 ∧ ∃ r a l1 l2 l3, Hid (Ag W wr q W.heap.size pm r (⟨x0, x1, x2, x3, x4, x5, x6, R, l1, l2, l3⟩ : Mx.M) a) ∧ Hid (r.s.length ≤ 1000) ∧ Hid (Pq.lM r0 = ((⟨x0, x1, x2, x3, x4, x5, x6, R, l1, l2, l3⟩ : Mx.M), r)) ∧ Hid (l1.length ≤ 255) ∧ Hid (l2.length ≤ 255) ∧ Hid (l3.length ≤ 255))) (fun vi _ _ => 3 - (intOf vi).toNat)
    case atStart => exact Or.inl ⟨rfl, rh, Ma.nil0, HP0, HLh, HH⟩
    case round =>
      clear HP0 HLh HH
      rcases hrel with ⟨rfl, r, a, HP, HLr, HSt⟩ | ⟨rfl, r, a, l1, HP, HLr, HSt, HL1⟩ | ⟨rfl, r, a, l1, l2, HP, HLr, HSt, HL1, HL2⟩ | ⟨rfl, r, a, l1, l2, l3, HP, HLr, HSt, HL1, HL2, HL3⟩
      · skip
        go_wp2_with fail
        have hc := C1.out _ _ HP.out.rr HLr.out
        have hnum := one_num r
        obtain ⟨y0, hy⟩ : ∃ z, (Pq.one r).1 = z := ⟨_, rfl⟩
        obtain ⟨r1, hr⟩ : ∃ z, (Pq.one r).2 = z := ⟨_, rfl⟩
        have HLr1 : Hid (r1.s.length ≤ 1000) := by show _ ≤ _; rw [← hr]; exact Nat.le_trans (one_len _) HLr.out
        rw [hy] at hnum
        obtain ⟨n, rfl⟩ := Int.eq_ofNat_of_zero_le hnum.1
        have hn : (n : Int) < 256 := hnum.2
        have HE1 : Hid (Pq.one r = ((n : Int), r1)) := by rw [← hy, ← hr]; rfl
        rw [hy, hr] at hc
        refine hc.mono ?_
        rintro e v1 ⟨rfl, hrr, hkk⟩
        have HP1 : Hid (Ag W v1 q W.heap.size pm r1 (⟨x0, x1, x2, x3, x4, x5, x6, R, [], [], []⟩ : Mx.M) a) := HP.out.rd hrr hkk
        have HSn : Hid (∀ l rr, Pq.many Pq.one n r1 = (l, rr) → Pq.lM1 (Pq.lHead r0) = ((⟨x0, x1, x2, x3, x4, x5, x6, R, l, [], []⟩ : Mx.M), rr)) := fun l rr e => by
          rw [HSt.out]
          unfold Pq.lM1
          simp only [HE1.out, Int.toNat_natCast, e]
        clear hc hy hr hrr hkk hnum HP HLr HSt
        go_wp2_with fail
        go_loopw [12] (fun vi wr => ∃ (k : Nat) (l : List Int) (r : Pq.R) (a : Ma), k ≤ n ∧ vi = .int .i64 (k : Int) ∧ Hid (Md Pq.one n r1 k l r) ∧ Hid (r.s.length ≤ 1000) ∧ Hid (Ag W wr q W.heap.size pm r (⟨x0, x1, x2, x3, x4, x5, x6, R, l, [], []⟩ : Mx.M) a)) (fun vi _ => n - (intOf vi).toNat)
        case atStart => exact ⟨0, [], r1, a, Nat.zero_le _, rfl, Md.start _ _ _, HLr1, HP1⟩
        case round =>
          clear HP1 HLr1
          obtain ⟨k, l, r, a, hk, rfl, HD, HLr, HP⟩ := hrel
          have HLl : Hid (l.length = k) := HD.out.len
          by_cases hkn : k < n
          · have ki : (k : Int) < (n : Int) := by omega
            have kb : (k : Int) < 1000 := by omega
            go_wp2_with fail
            have HP1 : Hid (Ag W wr.drew q W.heap.size pm r (⟨x0, x1, x2, x3, x4, x5, x6, R, l, [], []⟩ : Mx.M) a) := HP.out.on (Below.refl _ _).drew
            clear HP
            refine wp_region_held_drew (S := fun _ => True) (by kernel_rfl) trivial (fun hHeld => ?_)
            clear hHeld
            refine Hl.takeL (i := 0) (d := 17) (v := ?_) rfl (by kernel_rfl) (by kernel_rfl) (by kernel_rfl) (fun _ _ _ h => h) (by rfl) ?_ trivial ?_
            rotate_left
            · intro w hSw; go_simp; (try with_reducible rfl)
            simp only [Act.put, List.setIfInBounds_toArray, List.set_cons_zero, List.set_cons_succ]
            refine Hl.takeL (i := 2) (d := 19) (v := ?_) rfl (by kernel_rfl) (by kernel_rfl) (by kernel_rfl) (fun _ _ _ h => h) (by rfl) ?_ trivial ?_
            rotate_left
            · intro w hSw; go_simp; (try with_reducible rfl)
            simp only [Act.put, List.setIfInBounds_toArray, List.set_cons_zero, List.set_cons_succ]
            refine Hl.consL2 (i := 1) (j := 3) rfl rfl (by kernel_rfl) (fun K' hK' => ?_) (fun K' hK' => ?_)
            · skip
              have c8 : wr.drew.cell? ⟨pm, 8, none⟩ = some (.slice a.s1 l.length a.c1) := HP1.out.rm.c 8 _ rfl
              go_simp
              refine hK'.out _ _ trivial (fun hHeld => ?_)
              clear hK' K' hHeld
              clear c8
              refine Hl.consL (i := 3) rfl (by kernel_rfl) (fun K' hK' => ?_)
              go_simp
              have hc := C1.out _ _ HP1.out.rr HLr.out
              obtain ⟨y, hy⟩ : ∃ z, (Pq.one r).1 = z := ⟨_, rfl⟩
              obtain ⟨r2, hr⟩ : ∃ z, (Pq.one r).2 = z := ⟨_, rfl⟩
              have HLr2 : Hid (r2.s.length ≤ 1000) := by show _ ≤ _; rw [← hr]; exact Nat.le_trans (one_len _) HLr.out
              have HEr2 : Hid (Pq.one r = (y, r2)) := by rw [← hy, ← hr]; rfl
              rw [hy, hr] at hc
              refine hc.mono ?_
              rintro e w2 ⟨rfl, hrr, hkk⟩
              have HP2 : Hid (Ag W w2 q W.heap.size pm r2 (⟨x0, x1, x2, x3, x4, x5, x6, R, l, [], []⟩ : Mx.M) a) := HP1.out.rd hrr hkk
              clear hc hy hr hrr hkk
              try go_wp2_with fail
              refine hK'.out _ _ trivial (fun hHeld => ?_)
              clear hK' K' hHeld
              refine Hl.consL (i := 4) rfl (by kernel_rfl) (fun K' hK' => ?_)
              have HS : Hid (Src Tryd.prog 1 23 (.slice (some ⟨w2.heap.size, 0, none⟩) 1 1) 1 [.int .i64 y] (w2.alloc (.cells [.int .i64 y].toArray 3))) := Sg.src_new Tryd.underlying23 w2 3 1 1 _ rfl (fun u hu => by simp at hu; subst hu; rfl)
              have HP3 : Hid (Ag W (w2.alloc (.cells [.int .i64 y].toArray 3)) q W.heap.size pm r2 (⟨x0, x1, x2, x3, x4, x5, x6, R, l, [], []⟩ : Mx.M) a) := HP2.out.al _
              go_simp
              refine hK'.out _ _ trivial (fun hHeld => ?_)
              clear hK' K' hHeld
              refine Hl.consL (i := 5) rfl (by kernel_rfl) (fun K' hK' => ?_)
              refine Sg.step_appendO elInt rfl (.tmp 18) (.tmp 21) 23 rfl rfl rfl HP3.out.o1 HP3.out.kep.size HS.out (by have := HLl.out; show l.length + 1 ≤ 1000000; omega) ?_
              intro s' c' n' w' hn1 h1 hkk
              obtain ⟨ha, hf, hc⟩ := HP3.out.app1 (x := y) h1 hn1 hkk
              obtain ⟨an, han⟩ : ∃ z : Ma, z = { a with s1 := s', c1 := c' } := ⟨_, rfl⟩
              rw [← han] at ha
              have HPn : Hid (Ag W (w'.setCell ⟨pm, 8, none⟩ (.slice s' n' c')) q W.heap.size pm r2 (⟨x0, x1, x2, x3, x4, x5, x6, R, (l ++ [y]), [], []⟩ : Mx.M) an) := ha
              clear ha hn1 h1 hkk HS han
              refine hK'.out _ _ trivial (fun hHeld => ?_)
              clear hK' K' hHeld
              refine Hl.takeL (i := 6) (d := 23) (v := ?_) rfl (by kernel_rfl) (by kernel_rfl) (by kernel_rfl) (fun _ _ _ h => h) (by rfl) ?_ trivial ?_
              rotate_left
              · intro w hSw; go_simp; (try with_reducible rfl)
              simp only [Act.put, List.setIfInBounds_toArray, List.set_cons_zero, List.set_cons_succ]
              refine Hl.consL (i := 7) rfl (by kernel_rfl) (fun K' hK' => ?_)
              go_simp
              refine hK'.out _ _ trivial (fun hHeld => ?_)
              clear hK' K' hHeld
              refine wpAnyH_done (by kernel_rfl) ?_ _
              generalize w'.setCell ⟨pm, 8, none⟩ (.slice s' n' c') = vn at HPn ⊢
              clear hf hc
              have cb : vn.cell? ⟨q, 1, none⟩ = some (.bool r2.bad) := HPn.out.rr.c 1 _ rfl
              cases hb : r2.bad
              · rw [hb] at cb
                have HDn : Hid (Md Pq.one n r1 (k + 1) (l ++ [y]) r2) := Md.go (g := fun x => [Pq.u8 x]) Pq.ate_one HD.out hkn HEr2.out hb
                clear hb
                go_wp2_with fail
                go_roundw
                case rel => exact ⟨k + 1, _, _, _, by omega, rfl, HDn, HLr2, HPn⟩
                case measure => simp only [intOf]; omega
              · rw [hb] at cb
                have HBd : Hid (Fin4 r0 (⟨x0, x1, x2, x3, x4, x5, x6, R, (l ++ [y]), [], []⟩ : Mx.M) r2) := by
                  refine Or.inl ⟨hb, ?_⟩
                  have hbm := Md.bad (g := fun x => [Pq.u8 x]) Pq.ate_one HD.out hkn HEr2.out hb
                  have := congrArg (fun z : Mx.M × Pq.R => z.2.bad) (HSn.out _ _ rfl)
                  exact (Pq.lM_bad1 (this.trans hbm))
                have HSm : Hid (Mx.Small (⟨x0, x1, x2, x3, x4, x5, x6, R, (l ++ [y]), [], []⟩ : Mx.M)) := ⟨(by have := HLl.out; show (l ++ [y]).length ≤ _; rw [List.length_append]; show l.length + 1 ≤ 1000; omega), Nat.zero_le _, Nat.zero_le _⟩
                clear hb
                go_wp2_with fail
                go_meet
                case rel => exact ⟨_, _, _, HPn, HBd, HSm⟩
            · skip
              go_simp
              have hc := C1.out _ _ HP1.out.rr HLr.out
              obtain ⟨y, hy⟩ : ∃ z, (Pq.one r).1 = z := ⟨_, rfl⟩
              obtain ⟨r2, hr⟩ : ∃ z, (Pq.one r).2 = z := ⟨_, rfl⟩
              have HLr2 : Hid (r2.s.length ≤ 1000) := by show _ ≤ _; rw [← hr]; exact Nat.le_trans (one_len _) HLr.out
              have HEr2 : Hid (Pq.one r = (y, r2)) := by rw [← hy, ← hr]; rfl
              rw [hy, hr] at hc
              refine hc.mono ?_
              rintro e w2 ⟨rfl, hrr, hkk⟩
              have HP2 : Hid (Ag W w2 q W.heap.size pm r2 (⟨x0, x1, x2, x3, x4, x5, x6, R, l, [], []⟩ : Mx.M) a) := HP1.out.rd hrr hkk
              clear hc hy hr hrr hkk
              try go_wp2_with fail
              refine hK'.out _ _ trivial (fun hHeld => ?_)
              clear hK' K' hHeld
              refine Hl.consL2 (i := 1) (j := 4) rfl rfl (by kernel_rfl) (fun K' hK' => ?_) (fun K' hK' => ?_)
              · skip
                have c8 : w2.cell? ⟨pm, 8, none⟩ = some (.slice a.s1 l.length a.c1) := HP2.out.rm.c 8 _ rfl
                go_simp
                refine hK'.out _ _ trivial (fun hHeld => ?_)
                clear hK' K' hHeld
                clear c8
                refine Hl.consL (i := 4) rfl (by kernel_rfl) (fun K' hK' => ?_)
                have HS : Hid (Src Tryd.prog 1 23 (.slice (some ⟨w2.heap.size, 0, none⟩) 1 1) 1 [.int .i64 y] (w2.alloc (.cells [.int .i64 y].toArray 3))) := Sg.src_new Tryd.underlying23 w2 3 1 1 _ rfl (fun u hu => by simp at hu; subst hu; rfl)
                have HP3 : Hid (Ag W (w2.alloc (.cells [.int .i64 y].toArray 3)) q W.heap.size pm r2 (⟨x0, x1, x2, x3, x4, x5, x6, R, l, [], []⟩ : Mx.M) a) := HP2.out.al _
                go_simp
                refine hK'.out _ _ trivial (fun hHeld => ?_)
                clear hK' K' hHeld
                refine Hl.consL (i := 5) rfl (by kernel_rfl) (fun K' hK' => ?_)
                refine Sg.step_appendO elInt rfl (.tmp 18) (.tmp 21) 23 rfl rfl rfl HP3.out.o1 HP3.out.kep.size HS.out (by have := HLl.out; show l.length + 1 ≤ 1000000; omega) ?_
                intro s' c' n' w' hn1 h1 hkk
                obtain ⟨ha, hf, hc⟩ := HP3.out.app1 (x := y) h1 hn1 hkk
                obtain ⟨an, han⟩ : ∃ z : Ma, z = { a with s1 := s', c1 := c' } := ⟨_, rfl⟩
                rw [← han] at ha
                have HPn : Hid (Ag W (w'.setCell ⟨pm, 8, none⟩ (.slice s' n' c')) q W.heap.size pm r2 (⟨x0, x1, x2, x3, x4, x5, x6, R, (l ++ [y]), [], []⟩ : Mx.M) an) := ha
                clear ha hn1 h1 hkk HS han
                refine hK'.out _ _ trivial (fun hHeld => ?_)
                clear hK' K' hHeld
                refine Hl.takeL (i := 6) (d := 23) (v := ?_) rfl (by kernel_rfl) (by kernel_rfl) (by kernel_rfl) (fun _ _ _ h => h) (by rfl) ?_ trivial ?_
                rotate_left
                · intro w hSw; go_simp; (try with_reducible rfl)
                simp only [Act.put, List.setIfInBounds_toArray, List.set_cons_zero, List.set_cons_succ]
                refine Hl.consL (i := 7) rfl (by kernel_rfl) (fun K' hK' => ?_)
                go_simp
                refine hK'.out _ _ trivial (fun hHeld => ?_)
                clear hK' K' hHeld
                refine wpAnyH_done (by kernel_rfl) ?_ _
                generalize w'.setCell ⟨pm, 8, none⟩ (.slice s' n' c') = vn at HPn ⊢
                clear hf hc
                have cb : vn.cell? ⟨q, 1, none⟩ = some (.bool r2.bad) := HPn.out.rr.c 1 _ rfl
                cases hb : r2.bad
                · rw [hb] at cb
                  have HDn : Hid (Md Pq.one n r1 (k + 1) (l ++ [y]) r2) := Md.go (g := fun x => [Pq.u8 x]) Pq.ate_one HD.out hkn HEr2.out hb
                  clear hb
                  go_wp2_with fail
                  go_roundw
                  case rel => exact ⟨k + 1, _, _, _, by omega, rfl, HDn, HLr2, HPn⟩
                  case measure => simp only [intOf]; omega
                · rw [hb] at cb
                  have HBd : Hid (Fin4 r0 (⟨x0, x1, x2, x3, x4, x5, x6, R, (l ++ [y]), [], []⟩ : Mx.M) r2) := by
                    refine Or.inl ⟨hb, ?_⟩
                    have hbm := Md.bad (g := fun x => [Pq.u8 x]) Pq.ate_one HD.out hkn HEr2.out hb
                    have := congrArg (fun z : Mx.M × Pq.R => z.2.bad) (HSn.out _ _ rfl)
                    exact (Pq.lM_bad1 (this.trans hbm))
                  have HSm : Hid (Mx.Small (⟨x0, x1, x2, x3, x4, x5, x6, R, (l ++ [y]), [], []⟩ : Mx.M)) := ⟨(by have := HLl.out; show (l ++ [y]).length ≤ _; rw [List.length_append]; show l.length + 1 ≤ 1000; omega), Nat.zero_le _, Nat.zero_le _⟩
                  clear hb
                  go_wp2_with fail
                  go_meet
                  case rel => exact ⟨_, _, _, HPn, HBd, HSm⟩
              · skip
                have HS : Hid (Src Tryd.prog 1 23 (.slice (some ⟨w2.heap.size, 0, none⟩) 1 1) 1 [.int .i64 y] (w2.alloc (.cells [.int .i64 y].toArray 3))) := Sg.src_new Tryd.underlying23 w2 3 1 1 _ rfl (fun u hu => by simp at hu; subst hu; rfl)
                have HP3 : Hid (Ag W (w2.alloc (.cells [.int .i64 y].toArray 3)) q W.heap.size pm r2 (⟨x0, x1, x2, x3, x4, x5, x6, R, l, [], []⟩ : Mx.M) a) := HP2.out.al _
                go_simp
                refine hK'.out _ _ trivial (fun hHeld => ?_)
                clear hK' K' hHeld
                refine Hl.consL (i := 1) rfl (by kernel_rfl) (fun K' hK' => ?_)
                have c8 : (w2.alloc (.cells [.int .i64 y].toArray 3)).cell? ⟨pm, 8, none⟩ = some (.slice a.s1 l.length a.c1) := HP3.out.rm.c 8 _ rfl
                go_simp
                refine hK'.out _ _ trivial (fun hHeld => ?_)
                clear hK' K' hHeld
                clear c8
                refine Hl.consL (i := 5) rfl (by kernel_rfl) (fun K' hK' => ?_)
                refine Sg.step_appendO elInt rfl (.tmp 18) (.tmp 21) 23 rfl rfl rfl HP3.out.o1 HP3.out.kep.size HS.out (by have := HLl.out; show l.length + 1 ≤ 1000000; omega) ?_
                intro s' c' n' w' hn1 h1 hkk
                obtain ⟨ha, hf, hc⟩ := HP3.out.app1 (x := y) h1 hn1 hkk
                obtain ⟨an, han⟩ : ∃ z : Ma, z = { a with s1 := s', c1 := c' } := ⟨_, rfl⟩
                rw [← han] at ha
                have HPn : Hid (Ag W (w'.setCell ⟨pm, 8, none⟩ (.slice s' n' c')) q W.heap.size pm r2 (⟨x0, x1, x2, x3, x4, x5, x6, R, (l ++ [y]), [], []⟩ : Mx.M) an) := ha
                clear ha hn1 h1 hkk HS han
                refine hK'.out _ _ trivial (fun hHeld => ?_)
                clear hK' K' hHeld
                refine Hl.takeL (i := 6) (d := 23) (v := ?_) rfl (by kernel_rfl) (by kernel_rfl) (by kernel_rfl) (fun _ _ _ h => h) (by rfl) ?_ trivial ?_
                rotate_left
                · intro w hSw; go_simp; (try with_reducible rfl)
                simp only [Act.put, List.setIfInBounds_toArray, List.set_cons_zero, List.set_cons_succ]
                refine Hl.consL (i := 7) rfl (by kernel_rfl) (fun K' hK' => ?_)
                go_simp
                refine hK'.out _ _ trivial (fun hHeld => ?_)
                clear hK' K' hHeld
                refine wpAnyH_done (by kernel_rfl) ?_ _
                generalize w'.setCell ⟨pm, 8, none⟩ (.slice s' n' c') = vn at HPn ⊢
                clear hf hc
                have cb : vn.cell? ⟨q, 1, none⟩ = some (.bool r2.bad) := HPn.out.rr.c 1 _ rfl
                cases hb : r2.bad
                · rw [hb] at cb
                  have HDn : Hid (Md Pq.one n r1 (k + 1) (l ++ [y]) r2) := Md.go (g := fun x => [Pq.u8 x]) Pq.ate_one HD.out hkn HEr2.out hb
                  clear hb
                  go_wp2_with fail
                  go_roundw
                  case rel => exact ⟨k + 1, _, _, _, by omega, rfl, HDn, HLr2, HPn⟩
                  case measure => simp only [intOf]; omega
                · rw [hb] at cb
                  have HBd : Hid (Fin4 r0 (⟨x0, x1, x2, x3, x4, x5, x6, R, (l ++ [y]), [], []⟩ : Mx.M) r2) := by
                    refine Or.inl ⟨hb, ?_⟩
                    have hbm := Md.bad (g := fun x => [Pq.u8 x]) Pq.ate_one HD.out hkn HEr2.out hb
                    have := congrArg (fun z : Mx.M × Pq.R => z.2.bad) (HSn.out _ _ rfl)
                    exact (Pq.lM_bad1 (this.trans hbm))
                  have HSm : Hid (Mx.Small (⟨x0, x1, x2, x3, x4, x5, x6, R, (l ++ [y]), [], []⟩ : Mx.M)) := ⟨(by have := HLl.out; show (l ++ [y]).length ≤ _; rw [List.length_append]; show l.length + 1 ≤ 1000; omega), Nat.zero_le _, Nat.zero_le _⟩
                  clear hb
                  go_wp2_with fail
                  go_meet
                  case rel => exact ⟨_, _, _, HPn, HBd, HSm⟩
          · have HSf : Hid (Pq.lM1 (Pq.lHead r0) = ((⟨x0, x1, x2, x3, x4, x5, x6, R, l, [], []⟩ : Mx.M), r)) := HSn.out _ _ (HD.out.stop hk (Or.inl (by omega)))
            have HLf : Hid (l.length ≤ 255) := by show _ ≤ _; have := HLl.out; omega
            have ki : ¬ ((k : Int) < (n : Int)) := by omega
            clear HSn HD HLl
            go_wp2_with fail
            go_roundw
            case rel => exact Or.inr (Or.inl ⟨rfl, r, a, l, HP, HLr, HSf, HLf⟩)
            case measure => simp only [intOf]; omega
      · skip
        go_wp2_with fail
        have hc := C1.out _ _ HP.out.rr HLr.out
        have hnum := one_num r
        obtain ⟨y0, hy⟩ : ∃ z, (Pq.one r).1 = z := ⟨_, rfl⟩
        obtain ⟨r1, hr⟩ : ∃ z, (Pq.one r).2 = z := ⟨_, rfl⟩
        have HLr1 : Hid (r1.s.length ≤ 1000) := by show _ ≤ _; rw [← hr]; exact Nat.le_trans (one_len _) HLr.out
        rw [hy] at hnum
        obtain ⟨n, rfl⟩ := Int.eq_ofNat_of_zero_le hnum.1
        have hn : (n : Int) < 256 := hnum.2
        have HE1 : Hid (Pq.one r = ((n : Int), r1)) := by rw [← hy, ← hr]; rfl
        rw [hy, hr] at hc
        refine hc.mono ?_
        rintro e v1 ⟨rfl, hrr, hkk⟩
        have HP1 : Hid (Ag W v1 q W.heap.size pm r1 (⟨x0, x1, x2, x3, x4, x5, x6, R, l1, [], []⟩ : Mx.M) a) := HP.out.rd hrr hkk
        have HSn : Hid (∀ l rr, Pq.many Pq.lMes n r1 = (l, rr) → Pq.lM2 (Pq.lM1 (Pq.lHead r0)) = ((⟨x0, x1, x2, x3, x4, x5, x6, R, l1, l, []⟩ : Mx.M), rr)) := fun l rr e => by
          rw [HSt.out]
          unfold Pq.lM2
          simp only [HE1.out, Int.toNat_natCast, e]
        clear hc hy hr hrr hkk hnum HP HLr HSt
        go_wp2_with fail
        go_loopw [12] (fun vi wr => ∃ (k : Nat) (l : List Mx.Msg) (r : Pq.R) (a : Ma), k ≤ n ∧ vi = .int .i64 (k : Int) ∧ Hid (Md Pq.lMes n r1 k l r) ∧ Hid (r.s.length ≤ 1000) ∧ Hid (Ag W wr q W.heap.size pm r (⟨x0, x1, x2, x3, x4, x5, x6, R, l1, l, []⟩ : Mx.M) a)) (fun vi _ => n - (intOf vi).toNat)
        case atStart => exact ⟨0, [], r1, a, Nat.zero_le _, rfl, Md.start _ _ _, HLr1, HP1⟩
        case round =>
          clear HP1 HLr1
          obtain ⟨k, l, r, a, hk, rfl, HD, HLr, HP⟩ := hrel
          have HLl : Hid (l.length = k) := HD.out.len
          by_cases hkn : k < n
          · have ki : (k : Int) < (n : Int) := by omega
            have kb : (k : Int) < 1000 := by omega
            go_wp2_with fail
            have HP1 : Hid (Ag W wr.drew q W.heap.size pm r (⟨x0, x1, x2, x3, x4, x5, x6, R, l1, l, []⟩ : Mx.M) a) := HP.out.on (Below.refl _ _).drew
            clear HP
            refine wp_region_held_drew (S := fun _ => True) (by kernel_rfl) trivial (fun hHeld => ?_)
            clear hHeld
            refine Hl.takeL (i := 0) (d := 26) (v := ?_) rfl (by kernel_rfl) (by kernel_rfl) (by kernel_rfl) (fun _ _ _ h => h) (by rfl) ?_ trivial ?_
            rotate_left
            · intro w hSw; go_simp; (try with_reducible rfl)
            simp only [Act.put, List.setIfInBounds_toArray, List.set_cons_zero, List.set_cons_succ]
            refine Hl.takeL (i := 2) (d := 28) (v := ?_) rfl (by kernel_rfl) (by kernel_rfl) (by kernel_rfl) (fun _ _ _ h => h) (by rfl) ?_ trivial ?_
            rotate_left
            · intro w hSw; go_simp; (try with_reducible rfl)
            simp only [Act.put, List.setIfInBounds_toArray, List.set_cons_zero, List.set_cons_succ]
            refine Hl.consL2 (i := 1) (j := 3) rfl rfl (by kernel_rfl) (fun K' hK' => ?_) (fun K' hK' => ?_)
            · skip
              have c8 : wr.drew.cell? ⟨pm, 9, none⟩ = some (.slice a.s2 l.length a.c2) := HP1.out.rm.c 9 _ rfl
              go_simp
              refine hK'.out _ _ trivial (fun hHeld => ?_)
              clear hK' K' hHeld
              clear c8
              refine Hl.consL (i := 3) rfl (by kernel_rfl) (fun K' hK' => ?_)
              go_simp
              have hc := C2.out _ _ HP1.out.rr HLr.out
              obtain ⟨y, hy⟩ : ∃ z, (Pq.lMes r).1 = z := ⟨_, rfl⟩
              obtain ⟨r2, hr⟩ : ∃ z, (Pq.lMes r).2 = z := ⟨_, rfl⟩
              have HLr2 : Hid (r2.s.length ≤ 1000) := by show _ ≤ _; rw [← hr]; exact Nat.le_trans (mes_len2 _) HLr.out
              have HEr2 : Hid (Pq.lMes r = (y, r2)) := by rw [← hy, ← hr]; rfl
              rw [hy, hr] at hc
              refine hc.mono ?_
              rintro e w2 ⟨rfl, hrr, hkk⟩
              have HP2 : Hid (Ag W w2 q W.heap.size pm r2 (⟨x0, x1, x2, x3, x4, x5, x6, R, l1, l, []⟩ : Mx.M) a) := HP1.out.rd hrr hkk
              clear hc hy hr hrr hkk
              try go_wp2_with fail
              refine hK'.out _ _ trivial (fun hHeld => ?_)
              clear hK' K' hHeld
              refine Hl.consL (i := 4) rfl (by kernel_rfl) (fun K' hK' => ?_)
              have HS : Hid (Src Tryd.prog 3 24 (.slice (some ⟨w2.heap.size, 0, none⟩) 1 1) 1 [.int .u32 (y.id : Int), .int .i64 y.owner, .bool y.event] (w2.alloc (.cells [.int .u32 (y.id : Int), .int .i64 y.owner, .bool y.event].toArray 49))) := Sg.src_new Tryd.underlying24 w2 49 3 1 _ rfl (fun u hu => by simp at hu; rcases hu with rfl | rfl | rfl <;> rfl)
              have HP3 : Hid (Ag W (w2.alloc (.cells [.int .u32 (y.id : Int), .int .i64 y.owner, .bool y.event].toArray 49)) q W.heap.size pm r2 (⟨x0, x1, x2, x3, x4, x5, x6, R, l1, l, []⟩ : Mx.M) a) := HP2.out.al _
              go_simp
              refine hK'.out _ _ trivial (fun hHeld => ?_)
              clear hK' K' hHeld
              refine Hl.consL (i := 5) rfl (by kernel_rfl) (fun K' hK' => ?_)
              refine Sg.step_appendO elMsg rfl (.tmp 27) (.tmp 30) 24 rfl rfl rfl HP3.out.o2 HP3.out.kep.size HS.out (by have := HLl.out; show l.length + 1 ≤ 1000000; omega) ?_
              intro s' c' n' w' hn1 h1 hkk
              obtain ⟨ha, hf, hc⟩ := HP3.out.app2 (x := y) h1 hn1 hkk
              obtain ⟨an, han⟩ : ∃ z : Ma, z = { a with s2 := s', c2 := c' } := ⟨_, rfl⟩
              rw [← han] at ha
              have HPn : Hid (Ag W (w'.setCell ⟨pm, 9, none⟩ (.slice s' n' c')) q W.heap.size pm r2 (⟨x0, x1, x2, x3, x4, x5, x6, R, l1, (l ++ [y]), []⟩ : Mx.M) an) := ha
              clear ha hn1 h1 hkk HS han
              refine hK'.out _ _ trivial (fun hHeld => ?_)
              clear hK' K' hHeld
              refine Hl.takeL (i := 6) (d := 32) (v := ?_) rfl (by kernel_rfl) (by kernel_rfl) (by kernel_rfl) (fun _ _ _ h => h) (by rfl) ?_ trivial ?_
              rotate_left
              · intro w hSw; go_simp; (try with_reducible rfl)
              simp only [Act.put, List.setIfInBounds_toArray, List.set_cons_zero, List.set_cons_succ]
              refine Hl.consL (i := 7) rfl (by kernel_rfl) (fun K' hK' => ?_)
              go_simp
              refine hK'.out _ _ trivial (fun hHeld => ?_)
              clear hK' K' hHeld
              refine wpAnyH_done (by kernel_rfl) ?_ _
              generalize w'.setCell ⟨pm, 9, none⟩ (.slice s' n' c') = vn at HPn ⊢
              clear hf hc
              have cb : vn.cell? ⟨q, 1, none⟩ = some (.bool r2.bad) := HPn.out.rr.c 1 _ rfl
              cases hb : r2.bad
              · rw [hb] at cb
                have HDn : Hid (Md Pq.lMes n r1 (k + 1) (l ++ [y]) r2) := Md.go (g := Pq.mes) Pq.ate_mes HD.out hkn HEr2.out hb
                clear hb
                go_wp2_with fail
                go_roundw
                case rel => exact ⟨k + 1, _, _, _, by omega, rfl, HDn, HLr2, HPn⟩
                case measure => simp only [intOf]; omega
              · rw [hb] at cb
                have HBd : Hid (Fin4 r0 (⟨x0, x1, x2, x3, x4, x5, x6, R, l1, (l ++ [y]), []⟩ : Mx.M) r2) := by
                  refine Or.inl ⟨hb, ?_⟩
                  have hbm := Md.bad (g := Pq.mes) Pq.ate_mes HD.out hkn HEr2.out hb
                  have := congrArg (fun z : Mx.M × Pq.R => z.2.bad) (HSn.out _ _ rfl)
                  exact (Pq.lM_bad2 (this.trans hbm))
                have HSm : Hid (Mx.Small (⟨x0, x1, x2, x3, x4, x5, x6, R, l1, (l ++ [y]), []⟩ : Mx.M)) := ⟨Nat.le_trans HL1.out (by decide), (by have := HLl.out; show (l ++ [y]).length ≤ _; rw [List.length_append]; show l.length + 1 ≤ 1000; omega), Nat.zero_le _⟩
                clear hb
                go_wp2_with fail
                go_meet
                case rel => exact ⟨_, _, _, HPn, HBd, HSm⟩
            · skip
              go_simp
              have hc := C2.out _ _ HP1.out.rr HLr.out
              obtain ⟨y, hy⟩ : ∃ z, (Pq.lMes r).1 = z := ⟨_, rfl⟩
              obtain ⟨r2, hr⟩ : ∃ z, (Pq.lMes r).2 = z := ⟨_, rfl⟩
              have HLr2 : Hid (r2.s.length ≤ 1000) := by show _ ≤ _; rw [← hr]; exact Nat.le_trans (mes_len2 _) HLr.out
              have HEr2 : Hid (Pq.lMes r = (y, r2)) := by rw [← hy, ← hr]; rfl
              rw [hy, hr] at hc
              refine hc.mono ?_
              rintro e w2 ⟨rfl, hrr, hkk⟩
              have HP2 : Hid (Ag W w2 q W.heap.size pm r2 (⟨x0, x1, x2, x3, x4, x5, x6, R, l1, l, []⟩ : Mx.M) a) := HP1.out.rd hrr hkk
              clear hc hy hr hrr hkk
              try go_wp2_with fail
              refine hK'.out _ _ trivial (fun hHeld => ?_)
              clear hK' K' hHeld
              refine Hl.consL2 (i := 1) (j := 4) rfl rfl (by kernel_rfl) (fun K' hK' => ?_) (fun K' hK' => ?_)
              · skip
                have c8 : w2.cell? ⟨pm, 9, none⟩ = some (.slice a.s2 l.length a.c2) := HP2.out.rm.c 9 _ rfl
                go_simp
                refine hK'.out _ _ trivial (fun hHeld => ?_)
                clear hK' K' hHeld
                clear c8
                refine Hl.consL (i := 4) rfl (by kernel_rfl) (fun K' hK' => ?_)
                have HS : Hid (Src Tryd.prog 3 24 (.slice (some ⟨w2.heap.size, 0, none⟩) 1 1) 1 [.int .u32 (y.id : Int), .int .i64 y.owner, .bool y.event] (w2.alloc (.cells [.int .u32 (y.id : Int), .int .i64 y.owner, .bool y.event].toArray 49))) := Sg.src_new Tryd.underlying24 w2 49 3 1 _ rfl (fun u hu => by simp at hu; rcases hu with rfl | rfl | rfl <;> rfl)
                have HP3 : Hid (Ag W (w2.alloc (.cells [.int .u32 (y.id : Int), .int .i64 y.owner, .bool y.event].toArray 49)) q W.heap.size pm r2 (⟨x0, x1, x2, x3, x4, x5, x6, R, l1, l, []⟩ : Mx.M) a) := HP2.out.al _
                go_simp
                refine hK'.out _ _ trivial (fun hHeld => ?_)
                clear hK' K' hHeld
                refine Hl.consL (i := 5) rfl (by kernel_rfl) (fun K' hK' => ?_)
                refine Sg.step_appendO elMsg rfl (.tmp 27) (.tmp 30) 24 rfl rfl rfl HP3.out.o2 HP3.out.kep.size HS.out (by have := HLl.out; show l.length + 1 ≤ 1000000; omega) ?_
                intro s' c' n' w' hn1 h1 hkk
                obtain ⟨ha, hf, hc⟩ := HP3.out.app2 (x := y) h1 hn1 hkk
                obtain ⟨an, han⟩ : ∃ z : Ma, z = { a with s2 := s', c2 := c' } := ⟨_, rfl⟩
                rw [← han] at ha
                have HPn : Hid (Ag W (w'.setCell ⟨pm, 9, none⟩ (.slice s' n' c')) q W.heap.size pm r2 (⟨x0, x1, x2, x3, x4, x5, x6, R, l1, (l ++ [y]), []⟩ : Mx.M) an) := ha
                clear ha hn1 h1 hkk HS han
                refine hK'.out _ _ trivial (fun hHeld => ?_)
                clear hK' K' hHeld
                refine Hl.takeL (i := 6) (d := 32) (v := ?_) rfl (by kernel_rfl) (by kernel_rfl) (by kernel_rfl) (fun _ _ _ h => h) (by rfl) ?_ trivial ?_
                rotate_left
                · intro w hSw; go_simp; (try with_reducible rfl)
                simp only [Act.put, List.setIfInBounds_toArray, List.set_cons_zero, List.set_cons_succ]
                refine Hl.consL (i := 7) rfl (by kernel_rfl) (fun K' hK' => ?_)
                go_simp
                refine hK'.out _ _ trivial (fun hHeld => ?_)
                clear hK' K' hHeld
                refine wpAnyH_done (by kernel_rfl) ?_ _
                generalize w'.setCell ⟨pm, 9, none⟩ (.slice s' n' c') = vn at HPn ⊢
                clear hf hc
                have cb : vn.cell? ⟨q, 1, none⟩ = some (.bool r2.bad) := HPn.out.rr.c 1 _ rfl
                cases hb : r2.bad
                · rw [hb] at cb
                  have HDn : Hid (Md Pq.lMes n r1 (k + 1) (l ++ [y]) r2) := Md.go (g := Pq.mes) Pq.ate_mes HD.out hkn HEr2.out hb
                  clear hb
                  go_wp2_with fail
                  go_roundw
                  case rel => exact ⟨k + 1, _, _, _, by omega, rfl, HDn, HLr2, HPn⟩
                  case measure => simp only [intOf]; omega
                · rw [hb] at cb
                  have HBd : Hid (Fin4 r0 (⟨x0, x1, x2, x3, x4, x5, x6, R, l1, (l ++ [y]), []⟩ : Mx.M) r2) := by
                    refine Or.inl ⟨hb, ?_⟩
                    have hbm := Md.bad (g := Pq.mes) Pq.ate_mes HD.out hkn HEr2.out hb
                    have := congrArg (fun z : Mx.M × Pq.R => z.2.bad) (HSn.out _ _ rfl)
                    exact (Pq.lM_bad2 (this.trans hbm))
                  have HSm : Hid (Mx.Small (⟨x0, x1, x2, x3, x4, x5, x6, R, l1, (l ++ [y]), []⟩ : Mx.M)) := ⟨Nat.le_trans HL1.out (by decide), (by have := HLl.out; show (l ++ [y]).length ≤ _; rw [List.length_append]; show l.length + 1 ≤ 1000; omega), Nat.zero_le _⟩
                  clear hb
                  go_wp2_with fail
                  go_meet
                  case rel => exact ⟨_, _, _, HPn, HBd, HSm⟩
              · skip
                have HS : Hid (Src Tryd.prog 3 24 (.slice (some ⟨w2.heap.size, 0, none⟩) 1 1) 1 [.int .u32 (y.id : Int), .int .i64 y.owner, .bool y.event] (w2.alloc (.cells [.int .u32 (y.id : Int), .int .i64 y.owner, .bool y.event].toArray 49))) := Sg.src_new Tryd.underlying24 w2 49 3 1 _ rfl (fun u hu => by simp at hu; rcases hu with rfl | rfl | rfl <;> rfl)
                have HP3 : Hid (Ag W (w2.alloc (.cells [.int .u32 (y.id : Int), .int .i64 y.owner, .bool y.event].toArray 49)) q W.heap.size pm r2 (⟨x0, x1, x2, x3, x4, x5, x6, R, l1, l, []⟩ : Mx.M) a) := HP2.out.al _
                go_simp
                refine hK'.out _ _ trivial (fun hHeld => ?_)
                clear hK' K' hHeld
                refine Hl.consL (i := 1) rfl (by kernel_rfl) (fun K' hK' => ?_)
                have c8 : (w2.alloc (.cells [.int .u32 (y.id : Int), .int .i64 y.owner, .bool y.event].toArray 49)).cell? ⟨pm, 9, none⟩ = some (.slice a.s2 l.length a.c2) := HP3.out.rm.c 9 _ rfl
                go_simp
                refine hK'.out _ _ trivial (fun hHeld => ?_)
                clear hK' K' hHeld
                clear c8
                refine Hl.consL (i := 5) rfl (by kernel_rfl) (fun K' hK' => ?_)
                refine Sg.step_appendO elMsg rfl (.tmp 27) (.tmp 30) 24 rfl rfl rfl HP3.out.o2 HP3.out.kep.size HS.out (by have := HLl.out; show l.length + 1 ≤ 1000000; omega) ?_
                intro s' c' n' w' hn1 h1 hkk
                obtain ⟨ha, hf, hc⟩ := HP3.out.app2 (x := y) h1 hn1 hkk
                obtain ⟨an, han⟩ : ∃ z : Ma, z = { a with s2 := s', c2 := c' } := ⟨_, rfl⟩
                rw [← han] at ha
                have HPn : Hid (Ag W (w'.setCell ⟨pm, 9, none⟩ (.slice s' n' c')) q W.heap.size pm r2 (⟨x0, x1, x2, x3, x4, x5, x6, R, l1, (l ++ [y]), []⟩ : Mx.M) an) := ha
                clear ha hn1 h1 hkk HS han
                refine hK'.out _ _ trivial (fun hHeld => ?_)
                clear hK' K' hHeld
                refine Hl.takeL (i := 6) (d := 32) (v := ?_) rfl (by kernel_rfl) (by kernel_rfl) (by kernel_rfl) (fun _ _ _ h => h) (by rfl) ?_ trivial ?_
                rotate_left
                · intro w hSw; go_simp; (try with_reducible rfl)
                simp only [Act.put, List.setIfInBounds_toArray, List.set_cons_zero, List.set_cons_succ]
                refine Hl.consL (i := 7) rfl (by kernel_rfl) (fun K' hK' => ?_)
                go_simp
                refine hK'.out _ _ trivial (fun hHeld => ?_)
                clear hK' K' hHeld
                refine wpAnyH_done (by kernel_rfl) ?_ _
                generalize w'.setCell ⟨pm, 9, none⟩ (.slice s' n' c') = vn at HPn ⊢
                clear hf hc
                have cb : vn.cell? ⟨q, 1, none⟩ = some (.bool r2.bad) := HPn.out.rr.c 1 _ rfl
                cases hb : r2.bad
                · rw [hb] at cb
                  have HDn : Hid (Md Pq.lMes n r1 (k + 1) (l ++ [y]) r2) := Md.go (g := Pq.mes) Pq.ate_mes HD.out hkn HEr2.out hb
                  clear hb
                  go_wp2_with fail
                  go_roundw
                  case rel => exact ⟨k + 1, _, _, _, by omega, rfl, HDn, HLr2, HPn⟩
                  case measure => simp only [intOf]; omega
                · rw [hb] at cb
                  have HBd : Hid (Fin4 r0 (⟨x0, x1, x2, x3, x4, x5, x6, R, l1, (l ++ [y]), []⟩ : Mx.M) r2) := by
                    refine Or.inl ⟨hb, ?_⟩
                    have hbm := Md.bad (g := Pq.mes) Pq.ate_mes HD.out hkn HEr2.out hb
                    have := congrArg (fun z : Mx.M × Pq.R => z.2.bad) (HSn.out _ _ rfl)
                    exact (Pq.lM_bad2 (this.trans hbm))
                  have HSm : Hid (Mx.Small (⟨x0, x1, x2, x3, x4, x5, x6, R, l1, (l ++ [y]), []⟩ : Mx.M)) := ⟨Nat.le_trans HL1.out (by decide), (by have := HLl.out; show (l ++ [y]).length ≤ _; rw [List.length_append]; show l.length + 1 ≤ 1000; omega), Nat.zero_le _⟩
                  clear hb
                  go_wp2_with fail
                  go_meet
                  case rel => exact ⟨_, _, _, HPn, HBd, HSm⟩
          · have HSf : Hid (Pq.lM2 (Pq.lM1 (Pq.lHead r0)) = ((⟨x0, x1, x2, x3, x4, x5, x6, R, l1, l, []⟩ : Mx.M), r)) := HSn.out _ _ (HD.out.stop hk (Or.inl (by omega)))
            have HLf : Hid (l.length ≤ 255) := by show _ ≤ _; have := HLl.out; omega
            have ki : ¬ ((k : Int) < (n : Int)) := by omega
            clear HSn HD HLl
            go_wp2_with fail
            go_roundw
            case rel => exact Or.inr (Or.inr (Or.inl ⟨rfl, r, a, l1, l, HP, HLr, HSf, HL1, HLf⟩))
            case measure => simp only [intOf]; omega
      · skip
        go_wp2_with fail
        have hc := C1.out _ _ HP.out.rr HLr.out
        have hnum := one_num r
        obtain ⟨y0, hy⟩ : ∃ z, (Pq.one r).1 = z := ⟨_, rfl⟩
        obtain ⟨r1, hr⟩ : ∃ z, (Pq.one r).2 = z := ⟨_, rfl⟩
        have HLr1 : Hid (r1.s.length ≤ 1000) := by show _ ≤ _; rw [← hr]; exact Nat.le_trans (one_len _) HLr.out
        rw [hy] at hnum
        obtain ⟨n, rfl⟩ := Int.eq_ofNat_of_zero_le hnum.1
        have hn : (n : Int) < 256 := hnum.2
        have HE1 : Hid (Pq.one r = ((n : Int), r1)) := by rw [← hy, ← hr]; rfl
        rw [hy, hr] at hc
        refine hc.mono ?_
        rintro e v1 ⟨rfl, hrr, hkk⟩
        have HP1 : Hid (Ag W v1 q W.heap.size pm r1 (⟨x0, x1, x2, x3, x4, x5, x6, R, l1, l2, []⟩ : Mx.M) a) := HP.out.rd hrr hkk
        have HSn : Hid (∀ l rr, Pq.many Pq.rWin n r1 = (l, rr) → Pq.lM3 (Pq.lM2 (Pq.lM1 (Pq.lHead r0))) = ((⟨x0, x1, x2, x3, x4, x5, x6, R, l1, l2, l⟩ : Mx.M), rr)) := fun l rr e => by
          rw [HSt.out]
          unfold Pq.lM3
          simp only [HE1.out, Int.toNat_natCast, e]
        clear hc hy hr hrr hkk hnum HP HLr HSt
        go_wp2_with fail
        go_loopw [12] (fun vi wr => ∃ (k : Nat) (l : List Mx.Win) (r : Pq.R) (a : Ma), k ≤ n ∧ vi = .int .i64 (k : Int) ∧ Hid (Md Pq.rWin n r1 k l r) ∧ Hid (r.s.length ≤ 1000) ∧ Hid (Ag W wr q W.heap.size pm r (⟨x0, x1, x2, x3, x4, x5, x6, R, l1, l2, l⟩ : Mx.M) a)) (fun vi _ => n - (intOf vi).toNat)
        case atStart => exact ⟨0, [], r1, a, Nat.zero_le _, rfl, Md.start _ _ _, HLr1, HP1⟩
        case round =>
          clear HP1 HLr1
          obtain ⟨k, l, r, a, hk, rfl, HD, HLr, HP⟩ := hrel
          have HLl : Hid (l.length = k) := HD.out.len
          by_cases hkn : k < n
          · have ki : (k : Int) < (n : Int) := by omega
            have kb : (k : Int) < 1000 := by omega
            go_wp2_with fail
            have HP1 : Hid (Ag W wr.drew q W.heap.size pm r (⟨x0, x1, x2, x3, x4, x5, x6, R, l1, l2, l⟩ : Mx.M) a) := HP.out.on (Below.refl _ _).drew
            clear HP
            refine wp_region_held_drew (S := fun _ => True) (by kernel_rfl) trivial (fun hHeld => ?_)
            clear hHeld
            refine Hl.takeL (i := 0) (d := 35) (v := ?_) rfl (by kernel_rfl) (by kernel_rfl) (by kernel_rfl) (fun _ _ _ h => h) (by rfl) ?_ trivial ?_
            rotate_left
            · intro w hSw; go_simp; (try with_reducible rfl)
            simp only [Act.put, List.setIfInBounds_toArray, List.set_cons_zero, List.set_cons_succ]
            refine Hl.takeL (i := 2) (d := 37) (v := ?_) rfl (by kernel_rfl) (by kernel_rfl) (by kernel_rfl) (fun _ _ _ h => h) (by rfl) ?_ trivial ?_
            rotate_left
            · intro w hSw; go_simp; (try with_reducible rfl)
            simp only [Act.put, List.setIfInBounds_toArray, List.set_cons_zero, List.set_cons_succ]
            refine Hl.consL2 (i := 1) (j := 3) rfl rfl (by kernel_rfl) (fun K' hK' => ?_) (fun K' hK' => ?_)
            · skip
              have c8 : wr.drew.cell? ⟨pm, 10, none⟩ = some (.slice a.s3 l.length a.c3) := HP1.out.rm.c 10 _ rfl
              go_simp
              refine hK'.out _ _ trivial (fun hHeld => ?_)
              clear hK' K' hHeld
              clear c8
              refine Hl.consL (i := 3) rfl (by kernel_rfl) (fun K' hK' => ?_)
              go_simp
              have hc := C3.out _ _ HP1.out.rr HLr.out
              obtain ⟨y, hy⟩ : ∃ z, (Pq.rWin r).1 = z := ⟨_, rfl⟩
              obtain ⟨r2, hr⟩ : ∃ z, (Pq.rWin r).2 = z := ⟨_, rfl⟩
              have HLr2 : Hid (r2.s.length ≤ 1000) := by show _ ≤ _; rw [← hr]; exact Nat.le_trans (win_len2 _) HLr.out
              have HEr2 : Hid (Pq.rWin r = (y, r2)) := by rw [← hy, ← hr]; rfl
              rw [hy, hr] at hc
              refine hc.mono ?_
              rintro e w2 ⟨rfl, hrr, hkk⟩
              have HP2 : Hid (Ag W w2 q W.heap.size pm r2 (⟨x0, x1, x2, x3, x4, x5, x6, R, l1, l2, l⟩ : Mx.M) a) := HP1.out.rd hrr hkk
              clear hc hy hr hrr hkk
              try go_wp2_with fail
              refine hK'.out _ _ trivial (fun hHeld => ?_)
              clear hK' K' hHeld
              refine Hl.consL (i := 4) rfl (by kernel_rfl) (fun K' hK' => ?_)
              have HS : Hid (Src Tryd.prog 6 25 (.slice (some ⟨w2.heap.size, 0, none⟩) 1 1) 1 [.int .i64 y.kind, .int .i64 y.start, .int .i64 y.fin, .int .i64 y.cycle, .int .i64 y.rep, .int .i64 y.msg] (w2.alloc (.cells [.int .i64 y.kind, .int .i64 y.start, .int .i64 y.fin, .int .i64 y.cycle, .int .i64 y.rep, .int .i64 y.msg].toArray 52))) := Sg.src_new Tryd.underlying25 w2 52 6 1 _ rfl (fun u hu => by simp at hu; rcases hu with rfl | rfl | rfl | rfl | rfl | rfl <;> rfl)
              have HP3 : Hid (Ag W (w2.alloc (.cells [.int .i64 y.kind, .int .i64 y.start, .int .i64 y.fin, .int .i64 y.cycle, .int .i64 y.rep, .int .i64 y.msg].toArray 52)) q W.heap.size pm r2 (⟨x0, x1, x2, x3, x4, x5, x6, R, l1, l2, l⟩ : Mx.M) a) := HP2.out.al _
              go_simp
              refine hK'.out _ _ trivial (fun hHeld => ?_)
              clear hK' K' hHeld
              refine Hl.consL (i := 5) rfl (by kernel_rfl) (fun K' hK' => ?_)
              refine Sg.step_appendO elWin rfl (.tmp 36) (.tmp 39) 25 rfl rfl rfl HP3.out.o3 HP3.out.kep.size HS.out (by have := HLl.out; show l.length + 1 ≤ 1000000; omega) ?_
              intro s' c' n' w' hn1 h1 hkk
              obtain ⟨ha, hf, hc⟩ := HP3.out.app3 (x := y) h1 hn1 hkk
              obtain ⟨an, han⟩ : ∃ z : Ma, z = { a with s3 := s', c3 := c' } := ⟨_, rfl⟩
              rw [← han] at ha
              have HPn : Hid (Ag W (w'.setCell ⟨pm, 10, none⟩ (.slice s' n' c')) q W.heap.size pm r2 (⟨x0, x1, x2, x3, x4, x5, x6, R, l1, l2, (l ++ [y])⟩ : Mx.M) an) := ha
              clear ha hn1 h1 hkk HS han
              refine hK'.out _ _ trivial (fun hHeld => ?_)
              clear hK' K' hHeld
              refine Hl.takeL (i := 6) (d := 41) (v := ?_) rfl (by kernel_rfl) (by kernel_rfl) (by kernel_rfl) (fun _ _ _ h => h) (by rfl) ?_ trivial ?_
              rotate_left
              · intro w hSw; go_simp; (try with_reducible rfl)
              simp only [Act.put, List.setIfInBounds_toArray, List.set_cons_zero, List.set_cons_succ]
              refine Hl.consL (i := 7) rfl (by kernel_rfl) (fun K' hK' => ?_)
              go_simp
              refine hK'.out _ _ trivial (fun hHeld => ?_)
              clear hK' K' hHeld
              refine wpAnyH_done (by kernel_rfl) ?_ _
              generalize w'.setCell ⟨pm, 10, none⟩ (.slice s' n' c') = vn at HPn ⊢
              clear hf hc
              have cb : vn.cell? ⟨q, 1, none⟩ = some (.bool r2.bad) := HPn.out.rr.c 1 _ rfl
              cases hb : r2.bad
              · rw [hb] at cb
                have HDn : Hid (Md Pq.rWin n r1 (k + 1) (l ++ [y]) r2) := Md.go (g := Pq.win) Pq.ate_win HD.out hkn HEr2.out hb
                clear hb
                go_wp2_with fail
                go_roundw
                case rel => exact ⟨k + 1, _, _, _, by omega, rfl, HDn, HLr2, HPn⟩
                case measure => simp only [intOf]; omega
              · rw [hb] at cb
                have HBd : Hid (Fin4 r0 (⟨x0, x1, x2, x3, x4, x5, x6, R, l1, l2, (l ++ [y])⟩ : Mx.M) r2) := by
                  refine Or.inl ⟨hb, ?_⟩
                  have hbm := Md.bad (g := Pq.win) Pq.ate_win HD.out hkn HEr2.out hb
                  have := congrArg (fun z : Mx.M × Pq.R => z.2.bad) (HSn.out _ _ rfl)
                  exact this.trans hbm
                have HSm : Hid (Mx.Small (⟨x0, x1, x2, x3, x4, x5, x6, R, l1, l2, (l ++ [y])⟩ : Mx.M)) := ⟨Nat.le_trans HL1.out (by decide), Nat.le_trans HL2.out (by decide), (by have := HLl.out; show (l ++ [y]).length ≤ _; rw [List.length_append]; show l.length + 1 ≤ 1000; omega)⟩
                clear hb
                go_wp2_with fail
                go_meet
                case rel => exact ⟨_, _, _, HPn, HBd, HSm⟩
            · skip
              go_simp
              have hc := C3.out _ _ HP1.out.rr HLr.out
              obtain ⟨y, hy⟩ : ∃ z, (Pq.rWin r).1 = z := ⟨_, rfl⟩
              obtain ⟨r2, hr⟩ : ∃ z, (Pq.rWin r).2 = z := ⟨_, rfl⟩
              have HLr2 : Hid (r2.s.length ≤ 1000) := by show _ ≤ _; rw [← hr]; exact Nat.le_trans (win_len2 _) HLr.out
              have HEr2 : Hid (Pq.rWin r = (y, r2)) := by rw [← hy, ← hr]; rfl
              rw [hy, hr] at hc
              refine hc.mono ?_
              rintro e w2 ⟨rfl, hrr, hkk⟩
              have HP2 : Hid (Ag W w2 q W.heap.size pm r2 (⟨x0, x1, x2, x3, x4, x5, x6, R, l1, l2, l⟩ : Mx.M) a) := HP1.out.rd hrr hkk
              clear hc hy hr hrr hkk
              try go_wp2_with fail
              refine hK'.out _ _ trivial (fun hHeld => ?_)
              clear hK' K' hHeld
              refine Hl.consL2 (i := 1) (j := 4) rfl rfl (by kernel_rfl) (fun K' hK' => ?_) (fun K' hK' => ?_)
              · skip
                have c8 : w2.cell? ⟨pm, 10, none⟩ = some (.slice a.s3 l.length a.c3) := HP2.out.rm.c 10 _ rfl
                go_simp
                refine hK'.out _ _ trivial (fun hHeld => ?_)
                clear hK' K' hHeld
                clear c8
                refine Hl.consL (i := 4) rfl (by kernel_rfl) (fun K' hK' => ?_)
                have HS : Hid (Src Tryd.prog 6 25 (.slice (some ⟨w2.heap.size, 0, none⟩) 1 1) 1 [.int .i64 y.kind, .int .i64 y.start, .int .i64 y.fin, .int .i64 y.cycle, .int .i64 y.rep, .int .i64 y.msg] (w2.alloc (.cells [.int .i64 y.kind, .int .i64 y.start, .int .i64 y.fin, .int .i64 y.cycle, .int .i64 y.rep, .int .i64 y.msg].toArray 52))) := Sg.src_new Tryd.underlying25 w2 52 6 1 _ rfl (fun u hu => by simp at hu; rcases hu with rfl | rfl | rfl | rfl | rfl | rfl <;> rfl)
                have HP3 : Hid (Ag W (w2.alloc (.cells [.int .i64 y.kind, .int .i64 y.start, .int .i64 y.fin, .int .i64 y.cycle, .int .i64 y.rep, .int .i64 y.msg].toArray 52)) q W.heap.size pm r2 (⟨x0, x1, x2, x3, x4, x5, x6, R, l1, l2, l⟩ : Mx.M) a) := HP2.out.al _
                go_simp
                refine hK'.out _ _ trivial (fun hHeld => ?_)
                clear hK' K' hHeld
                refine Hl.consL (i := 5) rfl (by kernel_rfl) (fun K' hK' => ?_)
                refine Sg.step_appendO elWin rfl (.tmp 36) (.tmp 39) 25 rfl rfl rfl HP3.out.o3 HP3.out.kep.size HS.out (by have := HLl.out; show l.length + 1 ≤ 1000000; omega) ?_
                intro s' c' n' w' hn1 h1 hkk
                obtain ⟨ha, hf, hc⟩ := HP3.out.app3 (x := y) h1 hn1 hkk
                obtain ⟨an, han⟩ : ∃ z : Ma, z = { a with s3 := s', c3 := c' } := ⟨_, rfl⟩
                rw [← han] at ha
                have HPn : Hid (Ag W (w'.setCell ⟨pm, 10, none⟩ (.slice s' n' c')) q W.heap.size pm r2 (⟨x0, x1, x2, x3, x4, x5, x6, R, l1, l2, (l ++ [y])⟩ : Mx.M) an) := ha
                clear ha hn1 h1 hkk HS han
                refine hK'.out _ _ trivial (fun hHeld => ?_)
                clear hK' K' hHeld
                refine Hl.takeL (i := 6) (d := 41) (v := ?_) rfl (by kernel_rfl) (by kernel_rfl) (by kernel_rfl) (fun _ _ _ h => h) (by rfl) ?_ trivial ?_
                rotate_left
                · intro w hSw; go_simp; (try with_reducible rfl)
                simp only [Act.put, List.setIfInBounds_toArray, List.set_cons_zero, List.set_cons_succ]
                refine Hl.consL (i := 7) rfl (by kernel_rfl) (fun K' hK' => ?_)
                go_simp
                refine hK'.out _ _ trivial (fun hHeld => ?_)
                clear hK' K' hHeld
                refine wpAnyH_done (by kernel_rfl) ?_ _
                generalize w'.setCell ⟨pm, 10, none⟩ (.slice s' n' c') = vn at HPn ⊢
                clear hf hc
                have cb : vn.cell? ⟨q, 1, none⟩ = some (.bool r2.bad) := HPn.out.rr.c 1 _ rfl
                cases hb : r2.bad
                · rw [hb] at cb
                  have HDn : Hid (Md Pq.rWin n r1 (k + 1) (l ++ [y]) r2) := Md.go (g := Pq.win) Pq.ate_win HD.out hkn HEr2.out hb
                  clear hb
                  go_wp2_with fail
                  go_roundw
                  case rel => exact ⟨k + 1, _, _, _, by omega, rfl, HDn, HLr2, HPn⟩
                  case measure => simp only [intOf]; omega
                · rw [hb] at cb
                  have HBd : Hid (Fin4 r0 (⟨x0, x1, x2, x3, x4, x5, x6, R, l1, l2, (l ++ [y])⟩ : Mx.M) r2) := by
                    refine Or.inl ⟨hb, ?_⟩
                    have hbm := Md.bad (g := Pq.win) Pq.ate_win HD.out hkn HEr2.out hb
                    have := congrArg (fun z : Mx.M × Pq.R => z.2.bad) (HSn.out _ _ rfl)
                    exact this.trans hbm
                  have HSm : Hid (Mx.Small (⟨x0, x1, x2, x3, x4, x5, x6, R, l1, l2, (l ++ [y])⟩ : Mx.M)) := ⟨Nat.le_trans HL1.out (by decide), Nat.le_trans HL2.out (by decide), (by have := HLl.out; show (l ++ [y]).length ≤ _; rw [List.length_append]; show l.length + 1 ≤ 1000; omega)⟩
                  clear hb
                  go_wp2_with fail
                  go_meet
                  case rel => exact ⟨_, _, _, HPn, HBd, HSm⟩
              · skip
                have HS : Hid (Src Tryd.prog 6 25 (.slice (some ⟨w2.heap.size, 0, none⟩) 1 1) 1 [.int .i64 y.kind, .int .i64 y.start, .int .i64 y.fin, .int .i64 y.cycle, .int .i64 y.rep, .int .i64 y.msg] (w2.alloc (.cells [.int .i64 y.kind, .int .i64 y.start, .int .i64 y.fin, .int .i64 y.cycle, .int .i64 y.rep, .int .i64 y.msg].toArray 52))) := Sg.src_new Tryd.underlying25 w2 52 6 1 _ rfl (fun u hu => by simp at hu; rcases hu with rfl | rfl | rfl | rfl | rfl | rfl <;> rfl)
                have HP3 : Hid (Ag W (w2.alloc (.cells [.int .i64 y.kind, .int .i64 y.start, .int .i64 y.fin, .int .i64 y.cycle, .int .i64 y.rep, .int .i64 y.msg].toArray 52)) q W.heap.size pm r2 (⟨x0, x1, x2, x3, x4, x5, x6, R, l1, l2, l⟩ : Mx.M) a) := HP2.out.al _
                go_simp
                refine hK'.out _ _ trivial (fun hHeld => ?_)
                clear hK' K' hHeld
                refine Hl.consL (i := 1) rfl (by kernel_rfl) (fun K' hK' => ?_)
                have c8 : (w2.alloc (.cells [.int .i64 y.kind, .int .i64 y.start, .int .i64 y.fin, .int .i64 y.cycle, .int .i64 y.rep, .int .i64 y.msg].toArray 52)).cell? ⟨pm, 10, none⟩ = some (.slice a.s3 l.length a.c3) := HP3.out.rm.c 10 _ rfl
                go_simp
                refine hK'.out _ _ trivial (fun hHeld => ?_)
                clear hK' K' hHeld
                clear c8
                refine Hl.consL (i := 5) rfl (by kernel_rfl) (fun K' hK' => ?_)
                refine Sg.step_appendO elWin rfl (.tmp 36) (.tmp 39) 25 rfl rfl rfl HP3.out.o3 HP3.out.kep.size HS.out (by have := HLl.out; show l.length + 1 ≤ 1000000; omega) ?_
                intro s' c' n' w' hn1 h1 hkk
                obtain ⟨ha, hf, hc⟩ := HP3.out.app3 (x := y) h1 hn1 hkk
                obtain ⟨an, han⟩ : ∃ z : Ma, z = { a with s3 := s', c3 := c' } := ⟨_, rfl⟩
                rw [← han] at ha
                have HPn : Hid (Ag W (w'.setCell ⟨pm, 10, none⟩ (.slice s' n' c')) q W.heap.size pm r2 (⟨x0, x1, x2, x3, x4, x5, x6, R, l1, l2, (l ++ [y])⟩ : Mx.M) an) := ha
                clear ha hn1 h1 hkk HS han
                refine hK'.out _ _ trivial (fun hHeld => ?_)
                clear hK' K' hHeld
                refine Hl.takeL (i := 6) (d := 41) (v := ?_) rfl (by kernel_rfl) (by kernel_rfl) (by kernel_rfl) (fun _ _ _ h => h) (by rfl) ?_ trivial ?_
                rotate_left
                · intro w hSw; go_simp; (try with_reducible rfl)
                simp only [Act.put, List.setIfInBounds_toArray, List.set_cons_zero, List.set_cons_succ]
                refine Hl.consL (i := 7) rfl (by kernel_rfl) (fun K' hK' => ?_)
                go_simp
                refine hK'.out _ _ trivial (fun hHeld => ?_)
                clear hK' K' hHeld
                refine wpAnyH_done (by kernel_rfl) ?_ _
                generalize w'.setCell ⟨pm, 10, none⟩ (.slice s' n' c') = vn at HPn ⊢
                clear hf hc
                have cb : vn.cell? ⟨q, 1, none⟩ = some (.bool r2.bad) := HPn.out.rr.c 1 _ rfl
                cases hb : r2.bad
                · rw [hb] at cb
                  have HDn : Hid (Md Pq.rWin n r1 (k + 1) (l ++ [y]) r2) := Md.go (g := Pq.win) Pq.ate_win HD.out hkn HEr2.out hb
                  clear hb
                  go_wp2_with fail
                  go_roundw
                  case rel => exact ⟨k + 1, _, _, _, by omega, rfl, HDn, HLr2, HPn⟩
                  case measure => simp only [intOf]; omega
                · rw [hb] at cb
                  have HBd : Hid (Fin4 r0 (⟨x0, x1, x2, x3, x4, x5, x6, R, l1, l2, (l ++ [y])⟩ : Mx.M) r2) := by
                    refine Or.inl ⟨hb, ?_⟩
                    have hbm := Md.bad (g := Pq.win) Pq.ate_win HD.out hkn HEr2.out hb
                    have := congrArg (fun z : Mx.M × Pq.R => z.2.bad) (HSn.out _ _ rfl)
                    exact this.trans hbm
                  have HSm : Hid (Mx.Small (⟨x0, x1, x2, x3, x4, x5, x6, R, l1, l2, (l ++ [y])⟩ : Mx.M)) := ⟨Nat.le_trans HL1.out (by decide), Nat.le_trans HL2.out (by decide), (by have := HLl.out; show (l ++ [y]).length ≤ _; rw [List.length_append]; show l.length + 1 ≤ 1000; omega)⟩
                  clear hb
                  go_wp2_with fail
                  go_meet
                  case rel => exact ⟨_, _, _, HPn, HBd, HSm⟩
          · have HSf : Hid (Pq.lM r0 = ((⟨x0, x1, x2, x3, x4, x5, x6, R, l1, l2, l⟩ : Mx.M), r)) := HSn.out _ _ (HD.out.stop hk (Or.inl (by omega)))
            have HLf : Hid (l.length ≤ 255) := by show _ ≤ _; have := HLl.out; omega
            have ki : ¬ ((k : Int) < (n : Int)) := by omega
            clear HSn HD HLl
            go_wp2_with fail
            go_roundw
            case rel => exact Or.inr (Or.inr (Or.inr ⟨rfl, r, a, l1, l2, l, HP, HLr, HSf, HL1, HL2, HLf⟩))
            case measure => simp only [intOf]; omega
      · have HFn : Hid (Fin4 r0 (⟨x0, x1, x2, x3, x4, x5, x6, R, l1, l2, l3⟩ : Mx.M) r) := Or.inr HSt.out
        have HSm : Hid (Mx.Small (⟨x0, x1, x2, x3, x4, x5, x6, R, l1, l2, l3⟩ : Mx.M)) := ⟨Nat.le_trans HL1.out (by decide), Nat.le_trans HL2.out (by decide), Nat.le_trans HL3.out (by decide)⟩
        go_wp2_with fail
        go_meet
        case rel => exact ⟨_, _, _, HP, HFn, HSm⟩
  case rest =>
    obtain ⟨m, a, r, HP, HF, HSm⟩ := hcut
    have cm0 := HP.out.rm.c 0 _ rfl
    have cm1 := HP.out.rm.c 1 _ rfl
    have cm2 := HP.out.rm.c 2 _ rfl
    have cm3 := HP.out.rm.c 3 _ rfl
    have cm4 := HP.out.rm.c 4 _ rfl
    have cm5 := HP.out.rm.c 5 _ rfl
    have cm6 := HP.out.rm.c 6 _ rfl
    have cm7 := HP.out.rm.c 7 _ rfl
    have cm8 := HP.out.rm.c 8 _ rfl
    have cm9 := HP.out.rm.c 9 _ rfl
    have cm10 := HP.out.rm.c 10 _ rfl
    go_wp2_with (refine wpList_store_row (P := Tryd.prog) rfl 27 (.tmp 2) (.tmp 48) rfl W.heap.size (mCs m a) rfl rfl 27 _ HP.out.rz minfo13 rfl (mcs_one _ _) ?_)
    obtain ⟨hz, hrr, hmi, hkk⟩ := HP.out.res (mCs m a)
    generalize wc.setRow W.heap.size (mCs m a) = wz at hz hrr hmi hkk ⊢
    have z0 := hz.c 0 _ rfl
    have z1 := hz.c 1 _ rfl
    have z2 := hz.c 2 _ rfl
    have z3 := hz.c 3 _ rfl
    have z4 := hz.c 4 _ rfl
    have z5 := hz.c 5 _ rfl
    have z6 := hz.c 6 _ rfl
    have z7 := hz.c 7 _ rfl
    have z8 := hz.c 8 _ rfl
    have z9 := hz.c 9 _ rfl
    have z10 := hz.c 10 _ rfl
    rw [Exit.noGoto_ret]
    exact bodyPost_ret (v := mV m a) (by simp [results, Tryd.results24, go_sem, mCs, z0, z1, z2, z3, z4, z5, z6, z7, z8, z9, z10]) rfl ⟨m, a, r, rfl, HF.out, hrr, hmi, HSm.out, hkk⟩
end Go.Proofs.YtcdalfhmmipiaaaDoor
