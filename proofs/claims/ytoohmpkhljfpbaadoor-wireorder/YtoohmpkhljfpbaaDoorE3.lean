/- Package mac, over the landed code: fault, fail, settle, rest. -/
import Derived.Test.YtoohmpkhljfpbaaDoorE2
namespace Go.Proofs.YtoohmpkhljfpbaaDoor
open Go.RowKit
set_option linter.unusedVariables false
theorem isC_wf {s g : Int} (h : Km.isC s g = true) : (Lit.int .i64 s).wf = true ∧ (Lit.int .i64 g).wf = true := by
  obtain ⟨h1, h2, h3, h4⟩ := Km.isC_parts h
  have hk : IntKind.i64.min = -9223372036854775808 ∧ IntKind.i64.max = 9223372036854775807 := ⟨rfl, rfl⟩
  constructor <;> simp only [Lit.wf, hk.1, hk.2, Bool.and_eq_true, decide_eq_true_eq] <;> omega
/-- A call that tells events, of a node at p that may write its own block alone. -/
def Told (w : World) (p : Nat) (evs : List Mm.Ev) (cs : Array Value) (e : Ending) (w' : World) : Prop :=
  ∃ sl cap, e = .returned (.slice sl evs.length cap) ∧ EvAt w.heap.size w' sl cap evs ∧ Kp p w w' ∧ LRow w' p cs
theorem alloc_at {w : World} {o : Obj} {b : Nat} (hb : b = w.heap.size) : (w.alloc o).heap[b]? = some o := by subst hb; exact heap_alloc_new w o
theorem six_at {w : World} {b : Nat} {a0 a1 a2 a3 a4 a5 : Value} {t : TypeId} (h : w.heap[b]? = some (.cells #[a0, a1, a2, a3, a4, a5] t (0, 0))) :
    w.cell? ⟨b, 0, none⟩ = some a0 ∧ w.cell? ⟨b, 1, none⟩ = some a1 ∧ w.cell? ⟨b, 2, none⟩ = some a2 ∧ w.cell? ⟨b, 3, none⟩ = some a3 ∧ w.cell? ⟨b, 4, none⟩ = some a4 ∧ w.cell? ⟨b, 5, none⟩ = some a5 :=
  ⟨by rw [cell_of_row _ _ _ _ _ _ h]; rfl, by rw [cell_of_row _ _ _ _ _ _ h]; rfl, by rw [cell_of_row _ _ _ _ _ _ h]; rfl, by rw [cell_of_row _ _ _ _ _ _ h]; rfl, by rw [cell_of_row _ _ _ _ _ _ h]; rfl, by rw [cell_of_row _ _ _ _ _ _ h]; rfl⟩
set_option maxRecDepth 100000 in
set_option maxHeartbeats 2000000 in
theorem lfault0 (w : World) (p : Nat) (k l : Int) (row : ByteArray) (x : Bool) (n : Int) (r : Bool) (d wire : ByteArray) (s g : Int) (v : Mm.Ev) (D : ByteArray) (hD : D = ⟨v.f.2.2.2.toArray⟩) (ho : Km.offC s = false) (hc : Km.isC s g = true) (h : LRow w p (lcs k l row x n r d wire s g)) :
    Calls Tryd.prog 72 #[bptr p, evA v D] w fun e w' => Told w p [v] (lcs 3 6 ⟨#[]⟩ x n r d wire s g) e w' := by
  have hlt := h.lt
  have HD : Hid (D = ⟨v.f.2.2.2.toArray⟩) := hD
  have HM : Hid (LRow w p (lcs k l row x n r d wire s g)) := h
  have HO : Hid (∀ w, Calls Tryd.prog 66 #[.agg #[.int .i64 s, .int .i64 g]] w fun e w' => e = .returned (.bool false) ∧ Below w.heap.size w w') := fun w => by
    have h := kOff_any s g w (isC_wf hc).1 (isC_wf hc).2
    rw [ho] at h
    exact h
  have c0 : w.cell? ⟨p, 0, none⟩ = some (.int .i64 k) := h.c 0 _ rfl
  have f0 : w.frozen? ⟨p, 0, none⟩ = false := h.f 0
  have c1 : w.cell? ⟨p, 1, none⟩ = some (.int .i64 l) := h.c 1 _ rfl
  have f1 : w.frozen? ⟨p, 1, none⟩ = false := h.f 1
  have c2 : w.cell? ⟨p, 2, none⟩ = some (.string row) := h.c 2 _ rfl
  have f2 : w.frozen? ⟨p, 2, none⟩ = false := h.f 2
  have c8 : w.cell? ⟨p, 8, none⟩ = some (.int .i64 s) := h.c 8 _ rfl
  have f8 : w.frozen? ⟨p, 8, none⟩ = false := h.f 8
  have c9 : w.cell? ⟨p, 9, none⟩ = some (.int .i64 g) := h.c 9 _ rfl
  have f9 : w.frozen? ⟨p, 9, none⟩ = false := h.f 9
  have hpw : ¬ p = w.heap.size := Nat.ne_of_lt hlt
  clear h hD ho hc
  go_enter Tryd.func72, Tryd.ntmps72
  go_wp2_with fail
  have HM1 : Hid (LRow (((w.setCell ⟨p, 2, none⟩ (.string ⟨#[]⟩)).setCell ⟨p, 0, none⟩ (.int .i64 3)).setCell ⟨p, 1, none⟩ (.int .i64 6)) p (lcs 3 6 ⟨#[]⟩ x n r d wire s g)) := ((HM.out.set 2 _).set 0 _).set 1 _
  have HK1 : Hid (Kp p w (((w.setCell ⟨p, 2, none⟩ (.string ⟨#[]⟩)).setCell ⟨p, 0, none⟩ (.int .i64 3)).setCell ⟨p, 1, none⟩ (.int .i64 6))) := Kp.set1 (Kp.set1 (Kp.set1 (Kept.refl _ w)))
  have hsz : Hid (((((w.setCell ⟨p, 2, none⟩ (.string ⟨#[]⟩)).setCell ⟨p, 0, none⟩ (.int .i64 3)).setCell ⟨p, 1, none⟩ (.int .i64 6)).heap.size) = w.heap.size) := (by show _ = _; simp)
  clear HM c0 c1 c2 c8 c9 f0 f1 f2 f8 f9
  generalize ((w.setCell ⟨p, 2, none⟩ (.string ⟨#[]⟩)).setCell ⟨p, 0, none⟩ (.int .i64 3)).setCell ⟨p, 1, none⟩ (.int .i64 6) = w0 at *
  refine (HO.out _).mono ?_
  rintro e w1 ⟨rfl, hb1⟩
  have HM2 : Hid (LRow w1 p (lcs 3 6 ⟨#[]⟩ x n r d wire s g)) := (HM1.out.alloc _).on hb1
  have HK2 : Hid (Kp p w w1) := (Kp.alloc HK1.out _).join hb1
  have hE : w1.heap[w.heap.size]? = some (.cells #[.int .i64 (v.k : Int), .bool v.f.1, .int .u32 (v.f.2.1 : Int), .bool v.f.2.2.1, .string D, .int .i64 (v.e : Int)] 39 (0, 0)) := by
    have e0 := heap_alloc_new w0 (.cells #[.int .i64 (v.k : Int), .bool v.f.1, .int .u32 (v.f.2.1 : Int), .bool v.f.2.2.1, .string D, .int .i64 (v.e : Int)] 39)
    rw [hsz.out] at e0
    rw [hb1.block w.heap.size (by rw [← hsz.out]; simp)]
    exact e0
  have HE : Hid (w1.heap[w.heap.size]? = some (.cells #[.int .i64 (v.k : Int), .bool v.f.1, .int .u32 (v.f.2.1 : Int), .bool v.f.2.2.1, .string D, .int .i64 (v.e : Int)] 39 (0, 0))) := hE
  have hs1 : w.heap.size < w1.heap.size := (Array.getElem?_eq_some_iff.1 hE).1
  obtain ⟨g0, g1, g2, g3, g4, g5⟩ := six_at hE
  clear hb1 HO HM1 HK1 hsz hE
  go_wp2
  go_ret
  refine ⟨_, _, rfl, EvAt.one ?_ (Nat.le_of_lt hs1), Kp.alloc HK2.out _, HM2.out.alloc _⟩
  rw [heap_alloc_new, HD.out]
  rfl
set_option maxRecDepth 100000 in
set_option maxHeartbeats 2000000 in
theorem lfault1 (w : World) (p : Nat) (k l : Int) (row : ByteArray) (x : Bool) (n : Int) (r : Bool) (d wire : ByteArray) (s g : Int) (v : Mm.Ev) (D : ByteArray) (hD : D = ⟨v.f.2.2.2.toArray⟩) (ho : Km.offC s = true) (hc : Km.isC s g = true) (h : LRow w p (lcs k l row x n r d wire s g)) :
    Calls Tryd.prog 72 #[bptr p, evA v D] w fun e w' => Told w p [v, ⟨7, Cm.noF, 0⟩] (lcs 6 0 ⟨#[]⟩ x n r d wire s g) e w' := by
  have hlt := h.lt
  have HD : Hid (D = ⟨v.f.2.2.2.toArray⟩) := hD
  have HM : Hid (LRow w p (lcs k l row x n r d wire s g)) := h
  have HO : Hid (∀ w, Calls Tryd.prog 66 #[.agg #[.int .i64 s, .int .i64 g]] w fun e w' => e = .returned (.bool true) ∧ Below w.heap.size w w') := fun w => by
    have h := kOff_any s g w (isC_wf hc).1 (isC_wf hc).2
    rw [ho] at h
    exact h
  have c0 : w.cell? ⟨p, 0, none⟩ = some (.int .i64 k) := h.c 0 _ rfl
  have f0 : w.frozen? ⟨p, 0, none⟩ = false := h.f 0
  have c1 : w.cell? ⟨p, 1, none⟩ = some (.int .i64 l) := h.c 1 _ rfl
  have f1 : w.frozen? ⟨p, 1, none⟩ = false := h.f 1
  have c2 : w.cell? ⟨p, 2, none⟩ = some (.string row) := h.c 2 _ rfl
  have f2 : w.frozen? ⟨p, 2, none⟩ = false := h.f 2
  have c8 : w.cell? ⟨p, 8, none⟩ = some (.int .i64 s) := h.c 8 _ rfl
  have f8 : w.frozen? ⟨p, 8, none⟩ = false := h.f 8
  have c9 : w.cell? ⟨p, 9, none⟩ = some (.int .i64 g) := h.c 9 _ rfl
  have f9 : w.frozen? ⟨p, 9, none⟩ = false := h.f 9
  have hpw : ¬ p = w.heap.size := Nat.ne_of_lt hlt
  clear h hD ho hc
  go_enter Tryd.func72, Tryd.ntmps72
  go_wp2_with fail
  have HM1 : Hid (LRow (((w.setCell ⟨p, 2, none⟩ (.string ⟨#[]⟩)).setCell ⟨p, 0, none⟩ (.int .i64 3)).setCell ⟨p, 1, none⟩ (.int .i64 6)) p (lcs 3 6 ⟨#[]⟩ x n r d wire s g)) := ((HM.out.set 2 _).set 0 _).set 1 _
  have HK1 : Hid (Kp p w (((w.setCell ⟨p, 2, none⟩ (.string ⟨#[]⟩)).setCell ⟨p, 0, none⟩ (.int .i64 3)).setCell ⟨p, 1, none⟩ (.int .i64 6))) := Kp.set1 (Kp.set1 (Kp.set1 (Kept.refl _ w)))
  have hsz : Hid (((((w.setCell ⟨p, 2, none⟩ (.string ⟨#[]⟩)).setCell ⟨p, 0, none⟩ (.int .i64 3)).setCell ⟨p, 1, none⟩ (.int .i64 6)).heap.size) = w.heap.size) := (by show _ = _; simp)
  clear HM c0 c1 c2 c8 c9 f0 f1 f2 f8 f9
  generalize ((w.setCell ⟨p, 2, none⟩ (.string ⟨#[]⟩)).setCell ⟨p, 0, none⟩ (.int .i64 3)).setCell ⟨p, 1, none⟩ (.int .i64 6) = w0 at *
  refine (HO.out _).mono ?_
  rintro e w1 ⟨rfl, hb1⟩
  have HM2 : Hid (LRow w1 p (lcs 3 6 ⟨#[]⟩ x n r d wire s g)) := (HM1.out.alloc _).on hb1
  have HK2 : Hid (Kp p w w1) := (Kp.alloc HK1.out _).join hb1
  have hE : w1.heap[w.heap.size]? = some (.cells #[.int .i64 (v.k : Int), .bool v.f.1, .int .u32 (v.f.2.1 : Int), .bool v.f.2.2.1, .string D, .int .i64 (v.e : Int)] 39 (0, 0)) := by
    have e0 := heap_alloc_new w0 (.cells #[.int .i64 (v.k : Int), .bool v.f.1, .int .u32 (v.f.2.1 : Int), .bool v.f.2.2.1, .string D, .int .i64 (v.e : Int)] 39)
    rw [hsz.out] at e0
    rw [hb1.block w.heap.size (by rw [← hsz.out]; simp)]
    exact e0
  have HE : Hid (w1.heap[w.heap.size]? = some (.cells #[.int .i64 (v.k : Int), .bool v.f.1, .int .u32 (v.f.2.1 : Int), .bool v.f.2.2.1, .string D, .int .i64 (v.e : Int)] 39 (0, 0))) := hE
  have hs1 : w.heap.size < w1.heap.size := (Array.getElem?_eq_some_iff.1 hE).1
  obtain ⟨g0, g1, g2, g3, g4, g5⟩ := six_at hE
  clear hb1 HO HM1 HK1 hsz hE
  have hm := HM2.out
  have cm0 : w1.cell? ⟨p, 0, none⟩ = some (.int .i64 3) := hm.c 0 _ rfl
  have fm0 : w1.frozen? ⟨p, 0, none⟩ = false := hm.f 0
  have cm1 : w1.cell? ⟨p, 1, none⟩ = some (.int .i64 6) := hm.c 1 _ rfl
  have fm1 : w1.frozen? ⟨p, 1, none⟩ = false := hm.f 1
  have hwp : ¬ w.heap.size = p := fun e => hpw e.symm
  clear hm
  go_wp2
  go_ret
  refine ⟨_, _, rfl, EvAt.two ?_ ?_, Kp.alloc (Kp.set1 (Kp.set1 HK2.out)) _, ((HM2.out.set 0 _).set 1 _).alloc _⟩
  · rw [HD.out]
    exact alloc_at (by simp)
  · omega
/-- What a fault makes of the node, and what is told. -/
def fkl (s : Int) : Int × Int := if Km.offC s then (6, 0) else (3, 6)
def fev (s : Int) (v : Mm.Ev) : List Mm.Ev := if Km.offC s then [v, ⟨7, Cm.noF, 0⟩] else [v]
theorem lfault_any (w : World) (p : Nat) (k l : Int) (row : ByteArray) (x : Bool) (n : Int) (r : Bool) (d wire : ByteArray) (s g : Int) (v : Mm.Ev) (D : ByteArray) (hD : D = ⟨v.f.2.2.2.toArray⟩) (hc : Km.isC s g = true) (h : LRow w p (lcs k l row x n r d wire s g)) :
    Calls Tryd.prog 72 #[bptr p, evA v D] w fun e w' => Told w p (fev s v) (lcs (fkl s).1 (fkl s).2 ⟨#[]⟩ x n r d wire s g) e w' := by
  unfold fev fkl
  cases ho : Km.offC s
  · exact lfault0 w p k l row x n r d wire s g v D hD ho hc h
  · exact lfault1 w p k l row x n r d wire s g v D hD ho hc h
theorem Told.from {w w1 : World} {p : Nat} {evs : List Mm.Ev} {cs : Array Value} {e : Ending} {w' : World} (hK : Kp p w w1) (h : Told w1 p evs cs e w') : Told w p evs cs e w' := by
  obtain ⟨sl, cap, he, hE, hk, hm⟩ := h
  exact ⟨sl, cap, he, hE.base hK.size, hK.then hk, hm⟩
set_option maxRecDepth 100000 in
set_option maxHeartbeats 4000000 in
theorem lfail_any (w : World) (p : Nat) (k l : Int) (row : ByteArray) (x : Bool) (n : Nat) (r : Bool) (d wire : ByteArray) (s g : Int) (er : Nat) (her : er ≤ 1000) (hc : Km.isC s g = true) (h : LRow w p (lcs k l row x n r d wire s g)) :
    Calls Tryd.prog 68 #[bptr p, .int .i64 (er : Int)] w fun e w' => Told w p (fev (Km.sentS s g false) ⟨4, (x, n, r, d.data.toList), er⟩) (lcs (fkl (Km.sentS s g false)).1 (fkl (Km.sentS s g false)).2 ⟨#[]⟩ false 0 false ⟨#[]⟩ ⟨#[]⟩ (Km.sentS s g false) g) e w' := by
  have hlt := h.lt
  have HM : Hid (LRow w p (lcs k l row x n r d wire s g)) := h
  have HS : Hid (∀ w, Calls Tryd.prog 69 #[.agg #[.int .i64 s, .int .i64 g], .bool false] w fun e w' => e = .returned (.agg #[.int .i64 (Km.sentS s g false), .int .i64 g]) ∧ Below w.heap.size w w') := fun w => kSent_any s g false w (isC_wf hc).1 (isC_wf hc).2
  have HF : Hid (∀ w, LRow w p (lcs k l row false 0 false ⟨#[]⟩ ⟨#[]⟩ (Km.sentS s g false) g) → Calls Tryd.prog 72 #[bptr p, .agg #[.int .i64 4, .bool x, .int .u32 (n : Int), .bool r, .string d, .int .i64 (er : Int)]] w fun e w' => Told w p (fev (Km.sentS s g false) ⟨4, (x, n, r, d.data.toList), er⟩) (lcs (fkl (Km.sentS s g false)).1 (fkl (Km.sentS s g false)).2 ⟨#[]⟩ false 0 false ⟨#[]⟩ ⟨#[]⟩ (Km.sentS s g false) g) e w') := fun w h => lfault_any w p k l row false 0 false ⟨#[]⟩ ⟨#[]⟩ _ g ⟨4, (x, n, r, d.data.toList), er⟩ d rfl (Mm.isC_sent false hc) h
  have c3 : w.cell? ⟨p, 3, none⟩ = some (.bool x) := h.c 3 _ rfl
  have f3 : w.frozen? ⟨p, 3, none⟩ = false := h.f 3
  have c4 : w.cell? ⟨p, 4, none⟩ = some (.int .u32 n) := h.c 4 _ rfl
  have f4 : w.frozen? ⟨p, 4, none⟩ = false := h.f 4
  have c5 : w.cell? ⟨p, 5, none⟩ = some (.bool r) := h.c 5 _ rfl
  have f5 : w.frozen? ⟨p, 5, none⟩ = false := h.f 5
  have c6 : w.cell? ⟨p, 6, none⟩ = some (.string d) := h.c 6 _ rfl
  have f6 : w.frozen? ⟨p, 6, none⟩ = false := h.f 6
  have a3 : ∀ o, (w.alloc o).cell? ⟨p, 3, none⟩ = some (.bool x) := fun o => (h.alloc o).c 3 _ rfl
  have b3 : ∀ o, (w.alloc o).frozen? ⟨p, 3, none⟩ = false := fun o => (h.alloc o).f 3
  have a4 : ∀ o, (w.alloc o).cell? ⟨p, 4, none⟩ = some (.int .u32 n) := fun o => (h.alloc o).c 4 _ rfl
  have b4 : ∀ o, (w.alloc o).frozen? ⟨p, 4, none⟩ = false := fun o => (h.alloc o).f 4
  have a5 : ∀ o, (w.alloc o).cell? ⟨p, 5, none⟩ = some (.bool r) := fun o => (h.alloc o).c 5 _ rfl
  have b5 : ∀ o, (w.alloc o).frozen? ⟨p, 5, none⟩ = false := fun o => (h.alloc o).f 5
  have a6 : ∀ o, (w.alloc o).cell? ⟨p, 6, none⟩ = some (.string d) := fun o => (h.alloc o).c 6 _ rfl
  have b6 : ∀ o, (w.alloc o).frozen? ⟨p, 6, none⟩ = false := fun o => (h.alloc o).f 6
  have hpw : ¬ p = w.heap.size := Nat.ne_of_lt hlt
  have hwp : ¬ w.heap.size = p := fun e => hpw e.symm
  generalize fev (Km.sentS s g false) ⟨4, (x, n, r, d.data.toList), er⟩ = EV at *
  generalize (fkl (Km.sentS s g false)).1 = K1 at *
  generalize (fkl (Km.sentS s g false)).2 = K2 at *
  generalize Km.sentS s g false = S' at *
  clear h hc
  go_enter Tryd.func68, Tryd.ntmps68
  go_wp2_with fail
  refine (ldrop_any _ p k l row x n r d wire s g (HM.out.alloc _)).mono ?_
  rintro e w1 ⟨rfl, h1, h2⟩
  have HM1 : Hid (LRow w1 p (lcs k l row false 0 false ⟨#[]⟩ ⟨#[]⟩ s g)) := h1
  have HK1 : Hid (Kp p w w1) := (Kp.alloc (Kept.refl _ w) _).then h2
  have LF : Hid (Lies w1 w.heap.size x n r d) := (h2.block w.heap.size (by simp) hwp).trans (Lies.new w x n r d)
  have cm8 : w1.cell? ⟨p, 8, none⟩ = some (.int .i64 s) := h1.c 8 _ rfl
  have fm8 : w1.frozen? ⟨p, 8, none⟩ = false := h1.f 8
  have cm9 : w1.cell? ⟨p, 9, none⟩ = some (.int .i64 g) := h1.c 9 _ rfl
  have fm9 : w1.frozen? ⟨p, 9, none⟩ = false := h1.f 9
  have hs1 : Hid (w.heap.size < w1.heap.size) := LF.out.lt
  clear h1 h2 HM c3 c4 c5 c6 f3 f4 f5 f6 a3 a4 a5 a6 b3 b4 b5 b6
  go_wp2_with fail
  refine (HS.out _).mono ?_
  rintro e w2 ⟨rfl, hb⟩
  have hm := HM1.out.on hb
  have HM2 : Hid (LRow w2 p (lcs k l row false 0 false ⟨#[]⟩ ⟨#[]⟩ s g)) := hm
  have HK2 : Hid (Kp p w w2) := HK1.out.join hb
  have LF2 : Hid (Lies w2 w.heap.size x n r d) := LF.out.on hb
  have cq8 : w2.cell? ⟨p, 8, none⟩ = some (.int .i64 s) := hm.c 8 _ rfl
  have fq8 : w2.frozen? ⟨p, 8, none⟩ = false := hm.f 8
  have cq9 : w2.cell? ⟨p, 9, none⟩ = some (.int .i64 g) := hm.c 9 _ rfl
  have fq9 : w2.frozen? ⟨p, 9, none⟩ = false := hm.f 9
  have L0 := LF2.out.c0
  have L1 := LF2.out.c1
  have L2 := LF2.out.c2
  have L3 := LF2.out.c3
  clear hm hb HM1 HK1 LF cm8 cm9 fm8 fm9 HS
  go_wp2_with fail
  refine (HF.out _ ((HM2.out.set 8 _).set 9 _)).mono ?_
  rintro e w3 hR
  have HR : Hid (Told w p EV (lcs K1 K2 ⟨#[]⟩ false 0 false ⟨#[]⟩ ⟨#[]⟩ S' g) e w3) := Told.from (Kp.set1 (Kp.set1 HK2.out)) hR
  obtain ⟨sl, cap, rfl, hE, hk, hm⟩ := hR
  clear hE hk hm
  go_wp2
  go_ret
  exact HR.out
set_option maxRecDepth 100000 in
set_option maxHeartbeats 2000000 in
theorem lsettle0 (w : World) (p : Nat) (l : Int) (hl : 0 ≤ l ∧ l ≤ 100) (row : ByteArray) (x : Bool) (n : Int) (r : Bool) (d wire : ByteArray) (s g : Int) (h : LRow w p (lcs 4 l row x n r d wire s g)) :
    Calls Tryd.prog 53 #[bptr p, .string ⟨#[48]⟩] w fun e w' => e = .returned (.tuple #[]) ∧ LRow w' p (lcs 4 (max l 7) row x n r d wire s g) ∧ Kp p w w' := by
  have HM : Hid (LRow w p (lcs 4 l row x n r d wire s g)) := h
  obtain ⟨M, hM⟩ : ∃ M, max l 7 = M := ⟨_, rfl⟩
  rw [hM]
  have c1 : w.cell? ⟨p, 1, none⟩ = some (.int .i64 l) := h.c 1 _ rfl
  have f1 : w.frozen? ⟨p, 1, none⟩ = false := h.f 1
  clear h
  go_enter Tryd.func53, Tryd.ntmps53
  go_wp2
  go_end0
  exact ⟨rfl, HM.out.set 1 _, Kp.set1 (Kept.refl _ w)⟩
set_option maxRecDepth 100000 in
set_option maxHeartbeats 2000000 in
theorem lsettle1 (w : World) (p : Nat) (l : Int) (k' l' : Int) (row : ByteArray) (x : Bool) (n : Int) (r : Bool) (d wire : ByteArray) (s g : Int) (hL : ∀ w, Calls Tryd.prog 54 #[phV 4 l] w fun e w' => e = .returned (phV k' l') ∧ Below w.heap.size w w') (h : LRow w p (lcs 4 l row x n r d wire s g)) :
    Calls Tryd.prog 53 #[bptr p, .string ⟨#[49]⟩] w fun e w' => e = .returned (.tuple #[]) ∧ LRow w' p (lcs k' l' row x n r d wire s g) ∧ Kp p w w' := by
  have HM : Hid (LRow w p (lcs 4 l row x n r d wire s g)) := h
  have HL : Hid (∀ w, Calls Tryd.prog 54 #[phV 4 l] w fun e w' => e = .returned (phV k' l') ∧ Below w.heap.size w w') := hL
  have c0 : w.cell? ⟨p, 0, none⟩ = some (.int .i64 4) := h.c 0 _ rfl
  have f0 : w.frozen? ⟨p, 0, none⟩ = false := h.f 0
  have c1 : w.cell? ⟨p, 1, none⟩ = some (.int .i64 l) := h.c 1 _ rfl
  have f1 : w.frozen? ⟨p, 1, none⟩ = false := h.f 1
  clear h hL
  go_enter Tryd.func53, Tryd.ntmps53
  go_wp2_with fail
  refine (HL.out _).mono ?_
  rintro e w2 ⟨rfl, hb⟩
  have hm := HM.out.on hb
  have HM2 : Hid (LRow w2 p (lcs 4 l row x n r d wire s g)) := hm
  have HK2 : Hid (Kp p w w2) := Kp.of hb
  have cq0 : w2.cell? ⟨p, 0, none⟩ = some (.int .i64 4) := hm.c 0 _ rfl
  have fq0 : w2.frozen? ⟨p, 0, none⟩ = false := hm.f 0
  have cq1 : w2.cell? ⟨p, 1, none⟩ = some (.int .i64 l) := hm.c 1 _ rfl
  have fq1 : w2.frozen? ⟨p, 1, none⟩ = false := hm.f 1
  clear hm hb HM c0 c1 f0 f1 HL
  go_wp2
  exact bodyPost_ret (v := .tuple #[]) (by simp [results, Tryd.results53, go_sem]) rfl ⟨rfl, (HM2.out.set 0 _).set 1 _, Kp.set1 (Kp.set1 HK2.out)⟩
set_option maxRecDepth 100000 in
set_option maxHeartbeats 2000000 in
theorem lrest1 (w : World) (p : Nat) (row : ByteArray) (x : Bool) (n : Int) (r : Bool) (d wire : ByteArray) (s g : Int) (l : Int) (h : LRow w p (lcs 0 l row x n r d wire s g)) :
    Calls Tryd.prog 48 #[bptr p, .string ⟨#[49]⟩] w fun e w' => Told w p [] (lcs 0 l row x n r d wire s g) e w' := by
  have HM : Hid (LRow w p (lcs 0 l row x n r d wire s g)) := h
  have hlt := h.lt
  have c0 : w.cell? ⟨p, 0, none⟩ = some (.int .i64 0) := h.c 0 _ rfl
  have f0 : w.frozen? ⟨p, 0, none⟩ = false := h.f 0
  have c1 : w.cell? ⟨p, 1, none⟩ = some (.int .i64 l) := h.c 1 _ rfl
  have f1 : w.frozen? ⟨p, 1, none⟩ = false := h.f 1
  have a0 : ∀ o, (w.alloc o).cell? ⟨p, 0, none⟩ = some (.int .i64 0) := fun o => (h.alloc o).c 0 _ rfl
  have b0 : ∀ o, (w.alloc o).frozen? ⟨p, 0, none⟩ = false := fun o => (h.alloc o).f 0
  have a1 : ∀ o, (w.alloc o).cell? ⟨p, 1, none⟩ = some (.int .i64 l) := fun o => (h.alloc o).c 1 _ rfl
  have b1 : ∀ o, (w.alloc o).frozen? ⟨p, 1, none⟩ = false := fun o => (h.alloc o).f 1
  clear h
  go_enter Tryd.func48, Tryd.ntmps48
  go_wp2
  go_ret
  exact ⟨_, _, rfl, EvAt.empty _ _, Kp.alloc (Kept.refl _ w) _, HM.out.alloc _⟩
set_option maxRecDepth 100000 in
set_option maxHeartbeats 2000000 in
theorem lrest2 (w : World) (p : Nat) (row : ByteArray) (x : Bool) (n : Int) (r : Bool) (d wire : ByteArray) (s g : Int) (l k' l' : Int) (hL : ∀ w, Calls Tryd.prog 54 #[phV 5 l] w fun e w' => e = .returned (phV k' l') ∧ Below w.heap.size w w') (h : LRow w p (lcs 5 l row x n r d wire s g)) :
    Calls Tryd.prog 48 #[bptr p, .string ⟨#[49]⟩] w fun e w' => Told w p [] (lcs k' l' row x n r d wire s g) e w' := by
  have HM : Hid (LRow w p (lcs 5 l row x n r d wire s g)) := h
  have HL : Hid (∀ w, Calls Tryd.prog 54 #[phV 5 l] w fun e w' => e = .returned (phV k' l') ∧ Below w.heap.size w w') := hL
  have hlt := h.lt
  have c0 : w.cell? ⟨p, 0, none⟩ = some (.int .i64 5) := h.c 0 _ rfl
  have f0 : w.frozen? ⟨p, 0, none⟩ = false := h.f 0
  have c1 : w.cell? ⟨p, 1, none⟩ = some (.int .i64 l) := h.c 1 _ rfl
  have f1 : w.frozen? ⟨p, 1, none⟩ = false := h.f 1
  have a0 : ∀ o, (w.alloc o).cell? ⟨p, 0, none⟩ = some (.int .i64 5) := fun o => (h.alloc o).c 0 _ rfl
  have b0 : ∀ o, (w.alloc o).frozen? ⟨p, 0, none⟩ = false := fun o => (h.alloc o).f 0
  have a1 : ∀ o, (w.alloc o).cell? ⟨p, 1, none⟩ = some (.int .i64 l) := fun o => (h.alloc o).c 1 _ rfl
  have b1 : ∀ o, (w.alloc o).frozen? ⟨p, 1, none⟩ = false := fun o => (h.alloc o).f 1
  clear h hL
  go_enter Tryd.func48, Tryd.ntmps48
  go_wp2_with fail
  refine (HL.out _).mono ?_
  rintro e w2 ⟨rfl, hb⟩
  have hm := (HM.out.alloc _).on hb
  have HM2 : Hid (LRow w2 p (lcs 5 l row x n r d wire s g)) := hm
  have HK2 : Hid (Kp p w w2) := (Kp.alloc (Kept.refl _ w) _).join hb
  have cq0 : w2.cell? ⟨p, 0, none⟩ = some (.int .i64 5) := hm.c 0 _ rfl
  have fq0 : w2.frozen? ⟨p, 0, none⟩ = false := hm.f 0
  have cq1 : w2.cell? ⟨p, 1, none⟩ = some (.int .i64 l) := hm.c 1 _ rfl
  have fq1 : w2.frozen? ⟨p, 1, none⟩ = false := hm.f 1
  clear hm hb HM c0 c1 f0 f1 a0 a1 b0 b1 HL
  go_wp2
  go_ret
  exact ⟨_, _, rfl, EvAt.empty _ _, Kp.set1 (Kp.set1 HK2.out), (HM2.out.set 0 _).set 1 _⟩
set_option maxRecDepth 100000 in
set_option maxHeartbeats 2000000 in
theorem lrest3 (w : World) (p : Nat) (row : ByteArray) (x : Bool) (n : Int) (r : Bool) (d wire : ByteArray) (s g : Int) (l : Int) (h : LRow w p (lcs 5 l row x n r d wire s g)) :
    Calls Tryd.prog 48 #[bptr p, .string ⟨#[48]⟩] w fun e w' => Told w p [⟨6, Cm.noF, 0⟩] (lcs 2 0 ⟨#[48]⟩ x n r d wire s g) e w' := by
  have HM : Hid (LRow w p (lcs 5 l row x n r d wire s g)) := h
  have hlt := h.lt
  have hpw : ¬ p = w.heap.size := Nat.ne_of_lt hlt
  have hwp : ¬ w.heap.size = p := fun e => hpw e.symm
  have c0 : w.cell? ⟨p, 0, none⟩ = some (.int .i64 5) := h.c 0 _ rfl
  have f0 : w.frozen? ⟨p, 0, none⟩ = false := h.f 0
  have c1 : w.cell? ⟨p, 1, none⟩ = some (.int .i64 l) := h.c 1 _ rfl
  have f1 : w.frozen? ⟨p, 1, none⟩ = false := h.f 1
  have c2 : w.cell? ⟨p, 2, none⟩ = some (.string row) := h.c 2 _ rfl
  have f2 : w.frozen? ⟨p, 2, none⟩ = false := h.f 2
  have a0 : ∀ o, (w.alloc o).cell? ⟨p, 0, none⟩ = some (.int .i64 5) := fun o => (h.alloc o).c 0 _ rfl
  have b0 : ∀ o, (w.alloc o).frozen? ⟨p, 0, none⟩ = false := fun o => (h.alloc o).f 0
  have a1 : ∀ o, (w.alloc o).cell? ⟨p, 1, none⟩ = some (.int .i64 l) := fun o => (h.alloc o).c 1 _ rfl
  have b1 : ∀ o, (w.alloc o).frozen? ⟨p, 1, none⟩ = false := fun o => (h.alloc o).f 1
  have a2 : ∀ o, (w.alloc o).cell? ⟨p, 2, none⟩ = some (.string row) := fun o => (h.alloc o).c 2 _ rfl
  have b2 : ∀ o, (w.alloc o).frozen? ⟨p, 2, none⟩ = false := fun o => (h.alloc o).f 2
  clear h
  go_enter Tryd.func48, Tryd.ntmps48
  go_wp2
  go_ret
  exact ⟨_, _, rfl, EvAt.one (alloc_at (by simp)) (by omega), Kp.alloc (Kp.alloc (Kp.set1 (Kp.set1 (Kp.set1 (Kept.refl _ w)))) _) _, ((((HM.out.set 2 _).set 0 _).set 1 _).alloc _).alloc _⟩
set_option maxRecDepth 100000 in
set_option maxHeartbeats 2000000 in
theorem lrest4 (w : World) (p : Nat) (row : ByteArray) (x : Bool) (n : Int) (r : Bool) (d : ByteArray) (s g : Int) (l : Int) (h : LRow w p (lcs 0 l row x n r d ⟨#[]⟩ s g)) :
    Calls Tryd.prog 48 #[bptr p, .string ⟨#[48]⟩] w fun e w' => Told w p [⟨6, Cm.noF, 0⟩] (lcs 2 0 ⟨#[48]⟩ x n r d ⟨#[]⟩ s g) e w' := by
  have HM : Hid (LRow w p (lcs 0 l row x n r d ⟨#[]⟩ s g)) := h
  have hlt := h.lt
  have hpw : ¬ p = w.heap.size := Nat.ne_of_lt hlt
  have hwp : ¬ w.heap.size = p := fun e => hpw e.symm
  have c0 : w.cell? ⟨p, 0, none⟩ = some (.int .i64 0) := h.c 0 _ rfl
  have f0 : w.frozen? ⟨p, 0, none⟩ = false := h.f 0
  have c1 : w.cell? ⟨p, 1, none⟩ = some (.int .i64 l) := h.c 1 _ rfl
  have f1 : w.frozen? ⟨p, 1, none⟩ = false := h.f 1
  have c2 : w.cell? ⟨p, 2, none⟩ = some (.string row) := h.c 2 _ rfl
  have f2 : w.frozen? ⟨p, 2, none⟩ = false := h.f 2
  have a0 : ∀ o, (w.alloc o).cell? ⟨p, 0, none⟩ = some (.int .i64 0) := fun o => (h.alloc o).c 0 _ rfl
  have b0 : ∀ o, (w.alloc o).frozen? ⟨p, 0, none⟩ = false := fun o => (h.alloc o).f 0
  have a1 : ∀ o, (w.alloc o).cell? ⟨p, 1, none⟩ = some (.int .i64 l) := fun o => (h.alloc o).c 1 _ rfl
  have b1 : ∀ o, (w.alloc o).frozen? ⟨p, 1, none⟩ = false := fun o => (h.alloc o).f 1
  have a2 : ∀ o, (w.alloc o).cell? ⟨p, 2, none⟩ = some (.string row) := fun o => (h.alloc o).c 2 _ rfl
  have b2 : ∀ o, (w.alloc o).frozen? ⟨p, 2, none⟩ = false := fun o => (h.alloc o).f 2
  clear h
  go_enter Tryd.func48, Tryd.ntmps48
  go_wp2_with fail
  refine (lbusy0 _ p 2 0 ⟨#[48]⟩ x n r d s g ((((HM.out.set 2 _).set 0 _).set 1 _).alloc _)).mono ?_
  rintro e w2 ⟨rfl, hb⟩
  have HM2 : Hid (LRow w2 p (lcs 2 0 ⟨#[48]⟩ x n r d ⟨#[]⟩ s g)) := LRow.on ((((HM.out.set 2 _).set 0 _).set 1 _).alloc _) hb
  have HK2 : Hid (Kp p w w2) := (Kp.alloc (Kp.set1 (Kp.set1 (Kp.set1 (Kept.refl _ w)))) _).join hb
  clear hb HM c0 c1 c2 f0 f1 f2 a0 a1 a2 b0 b1 b2
  go_wp2
  go_ret
  exact ⟨_, _, rfl, EvAt.one (alloc_at rfl) HK2.out.size, Kp.alloc HK2.out _, HM2.out.alloc _⟩
set_option maxRecDepth 100000 in
set_option maxHeartbeats 2000000 in
theorem lrest5 (w : World) (p : Nat) (row : ByteArray) (x : Bool) (n : Int) (r : Bool) (d wire : ByteArray) (s g : Int) (l : Int) (hw : 0 < wire.size) (hw2 : wire.size ≤ 1000) (h : LRow w p (lcs 0 l row x n r d wire s g)) :
    Calls Tryd.prog 48 #[bptr p, .string ⟨#[48]⟩] w fun e w' => Told w p [⟨6, Cm.noF, 0⟩] (lcs 1 ((wire.size : Int) - 1) ⟨#[48]⟩ x n r d wire s g) e w' := by
  have HM : Hid (LRow w p (lcs 0 l row x n r d wire s g)) := h
  have HW : Hid (0 < wire.size) := hw
  have hlt := h.lt
  have hpw : ¬ p = w.heap.size := Nat.ne_of_lt hlt
  have hwp : ¬ w.heap.size = p := fun e => hpw e.symm
  have c0 : w.cell? ⟨p, 0, none⟩ = some (.int .i64 0) := h.c 0 _ rfl
  have f0 : w.frozen? ⟨p, 0, none⟩ = false := h.f 0
  have c1 : w.cell? ⟨p, 1, none⟩ = some (.int .i64 l) := h.c 1 _ rfl
  have f1 : w.frozen? ⟨p, 1, none⟩ = false := h.f 1
  have c2 : w.cell? ⟨p, 2, none⟩ = some (.string row) := h.c 2 _ rfl
  have f2 : w.frozen? ⟨p, 2, none⟩ = false := h.f 2
  have a0 : ∀ o, (w.alloc o).cell? ⟨p, 0, none⟩ = some (.int .i64 0) := fun o => (h.alloc o).c 0 _ rfl
  have b0 : ∀ o, (w.alloc o).frozen? ⟨p, 0, none⟩ = false := fun o => (h.alloc o).f 0
  have a1 : ∀ o, (w.alloc o).cell? ⟨p, 1, none⟩ = some (.int .i64 l) := fun o => (h.alloc o).c 1 _ rfl
  have b1 : ∀ o, (w.alloc o).frozen? ⟨p, 1, none⟩ = false := fun o => (h.alloc o).f 1
  have a2 : ∀ o, (w.alloc o).cell? ⟨p, 2, none⟩ = some (.string row) := fun o => (h.alloc o).c 2 _ rfl
  have b2 : ∀ o, (w.alloc o).frozen? ⟨p, 2, none⟩ = false := fun o => (h.alloc o).f 2
  clear h hw
  go_enter Tryd.func48, Tryd.ntmps48
  go_wp2_with fail
  refine (lbusy1 _ p 2 0 ⟨#[48]⟩ x n r d wire s g HW.out ((((HM.out.set 2 _).set 0 _).set 1 _).alloc _)).mono ?_
  rintro e w2 ⟨rfl, hb⟩
  have hm : LRow w2 p (lcs 2 0 ⟨#[48]⟩ x n r d wire s g) := LRow.on ((((HM.out.set 2 _).set 0 _).set 1 _).alloc _) hb
  have HM2 : Hid (LRow w2 p (lcs 2 0 ⟨#[48]⟩ x n r d wire s g)) := hm
  have HK2 : Hid (Kp p w w2) := (Kp.alloc (Kp.set1 (Kp.set1 (Kp.set1 (Kept.refl _ w)))) _).join hb
  clear c0 c1 c2 f0 f1 f2 a0 a1 a2 b0 b1 b2
  have c0 : w2.cell? ⟨p, 0, none⟩ = some (.int .i64 2) := hm.c 0 _ rfl
  have f0 : w2.frozen? ⟨p, 0, none⟩ = false := hm.f 0
  have c1 : w2.cell? ⟨p, 1, none⟩ = some (.int .i64 0) := hm.c 1 _ rfl
  have f1 : w2.frozen? ⟨p, 1, none⟩ = false := hm.f 1
  have c7 : w2.cell? ⟨p, 7, none⟩ = some (.string wire) := hm.c 7 _ rfl
  have f7 : w2.frozen? ⟨p, 7, none⟩ = false := hm.f 7
  clear hb HM hm
  go_wp2
  go_ret
  exact ⟨_, _, rfl, EvAt.one (alloc_at (by simp)) HK2.out.size, Kp.alloc (Kp.set1 (Kp.set1 HK2.out)) _, ((HM2.out.set 0 _).set 1 _).alloc _⟩
end Go.Proofs.YtoohmpkhljfpbaaDoor
