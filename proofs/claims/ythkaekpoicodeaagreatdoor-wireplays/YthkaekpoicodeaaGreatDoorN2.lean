/- The document's own node on the wire: New, Ask, Drive, over its text. -/
import Derived.Test.YthkaekpoicodeaaGreatDoorN1
import Derived.Test.YthkaekpoicodeaaGreatDoorU8
import Derived.Test.YthkaekpoicodeaaGreatDoorMh
namespace Go.Proofs.YthkaekpoicodeaaGreatDoor
open Go.RowKit
set_option linter.unusedVariables false
set_option maxRecDepth 100000 in
set_option maxHeartbeats 1000000 in
theorem rnew_any (w : World) : Calls Tryz.prog 21 #[] w fun e w' => ∃ p q, e = .returned (bptr p) ∧ w.heap.size ≤ p ∧ w.heap.size ≤ q ∧ p ≠ q ∧ q < w'.heap.size ∧ MRow w' p (mcs 4 3 false false false false 0 false ⟨#[]⟩ ⟨#[]⟩ 0 0 q false 0 0) ∧ Below w.heap.size w w' := by
  go_enter Tryz.func21, Tryz.ntmps21
  go_wp2_with fail
  refine (newreader_any _).mono ?_
  rintro e w1 ⟨rfl, h1, hb⟩
  have HB : Hid (Below w.heap.size w w1) := hb
  have HL : Hid (w.heap.size < w1.heap.size) := (Array.getElem?_eq_some_iff.1 h1).1
  clear h1 hb
  go_wp2
  go_ret
  exact ⟨w1.heap.size, w.heap.size, rfl, HB.out.size, Nat.le_refl _, (by have := HL.out; omega), (by have := HL.out; simp; omega), heap_alloc_new _ _, HB.out.alloc HB.out.size _⟩
/-- What Ask answers; what it leaves. -/
def askK (ph : Mm.Ph) (f : Cm.Fr) (b : Bool) : Int := if ph = .off then 73 else if Mm.isFr f = false then 12 else if b then 72 else 0
def askC (ph : Mm.Ph) (f : Cm.Fr) (b : Bool) (old new : Array Value) : Array Value := if ph = .off then old else if Mm.isFr f = false then old else if b then old else new
set_option maxRecDepth 100000 in
set_option maxHeartbeats 2000000 in
theorem rask_any (w : World) (p : Nat) (ph : Mm.Ph) (lf : Int) (fi sd hh x : Bool) (n : Int) (r : Bool) (d out : ByteArray) (at_ ar : Int) (q : Nat) (tk : Bool) (s g : Int) (f : Cm.Fr) (D : ByteArray) (hD : D = ⟨f.2.2.2.toArray⟩) (h : MRow w p (mcs (phI ph) lf fi sd hh x n r d out at_ ar q tk s g)) :
    Calls Tryz.prog 8 #[bptr p, .agg #[.bool f.1, .int .u32 (f.2.1 : Int), .bool f.2.2.1, .string D]] w fun e w' => e = .returned (.int .i64 (askK ph f (hh || sd))) ∧ But p w w' ∧
      MRow w' p (askC ph f (hh || sd) (mcs (phI ph) lf fi sd hh x n r d out at_ ar q tk s g) (mcs (phI ph) lf fi sd true f.1 f.2.1 f.2.2.1 D out at_ ar q tk s g)) := by
  have HM : Hid (MRow w p (mcs (phI ph) lf fi sd hh x n r d out at_ ar q tk s g)) := h
  have hlt := h.lt
  have HI : Hid (∀ w, Calls Tryz.prog 22 #[.agg #[.bool f.1, .int .u32 (f.2.1 : Int), .bool f.2.2.1, .string D]] w fun e w' => e = .returned (.bool (Mm.isFr f)) ∧ Below w.heap.size w w') := fun w => by
    have h := refFIs_any f.1 f.2.1 f.2.2.1 ⟨f.2.2.2.toArray⟩ w
    rw [show (ByteArray.mk f.2.2.2.toArray).data.toList = f.2.2.2 from by simp] at h
    rw [hD]
    exact h
  have c0 : w.cell? ⟨p, 0, none⟩ = some (.int .i64 (phI ph)) := h.c 0 _ rfl
  clear hD
  by_cases ho : ph = .off
  · have e1 : askK ph f (hh || sd) = 73 := by unfold askK; rw [if_pos ho]
    have e2 : ∀ a b, askC ph f (hh || sd) a b = a := fun a b => by unfold askC; rw [if_pos ho]
    rw [e1, e2]
    clear e1 e2
    subst ho
    have c0' : w.cell? ⟨p, 0, none⟩ = some (.int .i64 5) := c0
    clear c0 h
    go_enter Tryz.func8, Tryz.ntmps8
    go_wp2
    go_ret
    exact ⟨rfl, But.of_below ((Below.refl _ _).alloc (Nat.le_refl _) _), HM.out.on ((Below.refl _ _).alloc (Nat.le_refl _) _)⟩
  · have hph : (phI ph == 5) = false := by cases ph <;> first | rfl | exact absurd rfl ho
    cases hF : Mm.isFr f
    · have e1 : askK ph f (hh || sd) = 12 := by unfold askK; rw [if_neg ho, if_pos hF]
      have e2 : ∀ a b, askC ph f (hh || sd) a b = a := fun a b => by unfold askC; rw [if_neg ho, if_pos hF]
      rw [e1, e2]
      clear e1 e2
      rw [hF] at HI
      generalize phI ph = P at *
      clear h ho hF
      go_enter Tryz.func8, Tryz.ntmps8
      go_wp2_with fail
      refine (HI.out _).mono ?_
      rintro e w1 ⟨rfl, hb⟩
      have hb2 : Hid (Below w.heap.size w w1) := below_joinK ((Below.refl _ _).alloc (Nat.le_refl _) _) hb (by simp)
      clear hb
      go_wp2
      go_ret
      exact ⟨rfl, But.of_below hb2.out, HM.out.on hb2.out⟩
    · have hF2 : ¬ Mm.isFr f = false := by rw [hF]; decide
      rw [hF] at HI
      cases hB : (hh || sd)
      · have e1 : askK ph f false = 0 := by unfold askK; rw [if_neg ho, if_neg hF2, if_neg (by decide)]
        have e2 : ∀ a b, askC ph f false a b = b := fun a b => by unfold askC; rw [if_neg ho, if_neg hF2, if_neg (by decide)]
        rw [e1, e2]
        clear e1 e2 hF2
        obtain ⟨rfl, rfl⟩ : hh = false ∧ sd = false := by cases hh <;> cases sd <;> simp_all
        generalize phI ph = P at *
        clear h ho hF hB
        go_enter Tryz.func8, Tryz.ntmps8
        go_wp2_with fail
        refine (HI.out _).mono ?_
        rintro e w1 ⟨rfl, hb⟩
        have LF : Hid (Lies w1 w.heap.size f.1 f.2.1 f.2.2.1 D) := (Lies.new w _ _ _ _).on hb
        have hb2 : Hid (Below w.heap.size w w1) := below_joinK ((Below.refl _ _).alloc (Nat.le_refl _) _) hb (by simp)
        have HM1 : Hid (MRow w1 p (mcs P lf fi false false x n r d out at_ ar q tk s g)) := HM.out.on hb2.out
        clear hb
        go_wp2_with fail
        refine (rbusy_any w1 p P lf fi false false x n r d out at_ ar q tk s g HM1.out).mono ?_
        rintro e w2 ⟨rfl, hb⟩
        replace LF : Hid (Lies w2 w.heap.size f.1 f.2.1 f.2.2.1 D) := LF.out.on hb
        replace HM1 : Hid (MRow w2 p (mcs P lf fi false false x n r d out at_ ar q tk s g)) := HM1.out.on hb
        replace hb2 : Hid (Below w.heap.size w w2) := below_joinK hb2.out hb hb2.out.size
        have hh1 := HM1.out
        have c4 : w2.cell? ⟨p, 4, none⟩ = some (.bool false) := hh1.c 4 _ rfl
        have f4 : w2.frozen? ⟨p, 4, none⟩ = false := hh1.f 4
        have c5 : w2.cell? ⟨p, 5, none⟩ = some (.bool x) := hh1.c 5 _ rfl
        have f5 : w2.frozen? ⟨p, 5, none⟩ = false := hh1.f 5
        have c6 : w2.cell? ⟨p, 6, none⟩ = some (.int .u32 n) := hh1.c 6 _ rfl
        have f6 : w2.frozen? ⟨p, 6, none⟩ = false := hh1.f 6
        have c7 : w2.cell? ⟨p, 7, none⟩ = some (.bool r) := hh1.c 7 _ rfl
        have f7 : w2.frozen? ⟨p, 7, none⟩ = false := hh1.f 7
        have c8 : w2.cell? ⟨p, 8, none⟩ = some (.string d) := hh1.c 8 _ rfl
        have f8 : w2.frozen? ⟨p, 8, none⟩ = false := hh1.f 8
        have L0 := LF.out.c0
        have L1 := LF.out.c1
        have L2 := LF.out.c2
        have L3 := LF.out.c3
        have hpw : p ≠ w.heap.size := Nat.ne_of_lt hlt
        have hwp : ¬ w.heap.size = p := fun e => hpw e.symm
        clear hb hh1 c0
        go_wp2_with fail
        go_region
        all_goals go_wp2
        go_ret
        exact ⟨rfl, ((But.of_below hb2.out).set1.set1.set1.set1.set1).trans (drew_but rfl), ((((HM1.out.set 4 _).set 5 _).set 6 _).set 7 _).set 8 _⟩
      · have e1 : askK ph f true = 72 := by unfold askK; rw [if_neg ho, if_neg hF2, if_pos rfl]
        have e2 : ∀ a b, askC ph f true a b = a := fun a b => by unfold askC; rw [if_neg ho, if_neg hF2, if_pos rfl]
        rw [e1, e2]
        clear e1 e2 hF2
        generalize phI ph = P at *
        clear h ho hF
        go_enter Tryz.func8, Tryz.ntmps8
        go_wp2_with fail
        refine (HI.out _).mono ?_
        rintro e w1 ⟨rfl, hb⟩
        have hb2 : Hid (Below w.heap.size w w1) := below_joinK ((Below.refl _ _).alloc (Nat.le_refl _) _) hb (by simp)
        have HM1 : Hid (MRow w1 p (mcs P lf fi sd hh x n r d out at_ ar q tk s g)) := HM.out.on hb2.out
        clear hb
        go_wp2_with fail
        refine (rbusy_any w1 p P lf fi sd hh x n r d out at_ ar q tk s g HM1.out).mono ?_
        rintro e w2 ⟨rfl, hb⟩
        rw [hB]
        have hb3 : Hid (Below w.heap.size w w2) := below_joinK hb2.out hb hb2.out.size
        clear hb
        go_wp2
        go_ret
        exact ⟨rfl, But.of_below hb3.out, HM.out.on hb3.out⟩
set_option maxRecDepth 100000 in
set_option maxHeartbeats 1000000 in
theorem rtail_any (w : World) (g : Nat) (S P R : ByteArray) (want tail : Int) (x : Bool) (n : Nat) (r : Bool) (d : ByteArray) (h : w.heap[g]? = some (.cells (rcs S P R want tail x n r d) 89 (0, 0))) :
    Calls Tryz.prog 42 #[bptr g] w fun e w' => e = .returned (.int .i64 tail) ∧ Below w.heap.size w w' := by
  have c4 : w.cell? ⟨g, 4, none⟩ = some (.int .i64 tail) := nine_cells h 4 _ rfl
  clear h
  go_enter Tryz.func42, Tryz.ntmps42
  go_wp2
  go_ret
  exact ⟨rfl, Below.refl _ _⟩
/-- The node in its plain state: its cells, its reader's. -/
structure RMac (w : World) (p q : Nat) (m : Mm.St) : Prop where
  ok : Mm.Ok m
  ne : p ≠ q
  lt : q < w.heap.size
  row : ∃ out at_ ar, MRow w p (mcs (phI m.ph) m.left m.first m.snd m.has m.f.1 m.f.2.1 m.f.2.2.1 ⟨m.f.2.2.2.toArray⟩ out at_ ar q m.tk m.cs m.cg) ∧ (m.snd = true → out = ⟨(Bm.row (Mm.outB m.f)).toArray⟩ ∧ at_ = (m.bits.length : Int) ∧ ar = (Mm.arbL m.f : Int))
  rd : m.ph = .inFr → ∃ S R, w.heap[q]? = some (.cells (rdc S (Mm.feed m.bits) R) 89 (0, 0)) ∧ Inv (Mm.feed m.bits) R S.size ∧ S.size = m.bits.length
end Go.Proofs.YthkaekpoicodeaaGreatDoor
