/- Layer 18: the document's objects: Send, State, Sent, Take, Read. -/
import Derived.Test.YtkgeknkppnadfaaN18
import Derived.Test.YtkgeknkppnadfaaU2
import Derived.Deep.CutBlock
namespace Go.Proofs.Ytkgeknkppnadfaa
open Go.RowKit Go.WideShapes Go.ChangeShapes Go.ChangeAt
set_option linter.unusedVariables false

set_option maxRecDepth 100000 in
set_option maxHeartbeats 8000000 in
theorem ro_there {V w : World} {p : Nat} {F : Nat → Prop} {s : Q18.St} {m : Mx.M} {a : Ma} {n g1 g2 g3 g4 r : Nat} {H : Nat → Prop} (h : Rx V w p F s m a n g1 g2 g3 g4 r H) (k : Int) (hk : (Lit.int .i64 k).wf = true) : Calls Try.prog 32 #[Ob.ptr p, .int .i64 k] w fun e w' => e = .returned (.bool (Q18.inn n k)) ∧ w' = w := by
  have c12 : w.cell? ⟨p, 12, none⟩ = some (.slice (some ⟨g1, 0, none⟩) n n) := h.ro.row.c 12 _ rfl
  unfold Q18.inn
  clear h
  by_cases h0 : 0 ≤ k
  · have d0 : decide (0 ≤ k) = true := decide_eq_true h0
    rw [d0]
    clear h0
    go_enter Try.func32, Try.ntmps32
    go_wp2
    go_ret
    exact ⟨by simp, rfl⟩
  · have d0 : decide (0 ≤ k) = false := decide_eq_false h0
    rw [d0]
    clear h0
    go_enter Try.func32, Try.ntmps32
    go_wp2
    go_ret
    exact ⟨by simp, rfl⟩

theorem Rx.there {V w : World} {p : Nat} {F : Nat → Prop} {s : Q18.St} {m : Mx.M} {a : Ma} {n g1 g2 g3 g4 r : Nat} {H : Nat → Prop} (h : Rx V w p F s m a n g1 g2 g3 g4 r H) (k : Int) (hk : (Lit.int .i64 k).wf = true) (b : Bool) (hb0 : Q18.inn n k = b) : ∀ w', Below w.heap.size w w' → Calls Try.prog 32 #[Ob.ptr p, .int .i64 k] w' fun e w'' => e = .returned (.bool b) ∧ Below w'.heap.size w' w'' := fun w' hb =>
  (ro_there (h.on (fun g hg => hb.block g (h.lt g hg))) k hk).mono fun e w'' ⟨h1, h2⟩ => by rw [h1, h2, hb0]; exact ⟨rfl, Below.refl _ _⟩
theorem Rx.below {V w : World} {p : Nat} {F : Nat → Prop} {s : Q18.St} {m : Mx.M} {a : Ma} {n g1 g2 g3 g4 r : Nat} {H : Nat → Prop} (h : Rx V w p F s m a n g1 g2 g3 g4 r H) {w' : World} (hb : Below w.heap.size w w') : Rx V w' p F s m a n g1 g2 g3 g4 r H := h.on (fun g hg => hb.block g (h.lt g hg))
theorem RoAt.turned {V w w' : World} {p : Nat} {F : Nat → Prop} {s : Q18.St} {v : Value} (h : RoAt V w p F s) (hb : Below w.heap.size w w') : v = v ∧ ∃ F', RoAt V w' p F' s ∧ (∀ g, F' g → F g ∨ w.heap.size ≤ g) ∧ Kept F w w' := ⟨rfl, F, (roIs V).on h (fun g hg => hb.block g ((roIs V).lt h g hg)), fun g hg => Or.inl hg, Kept.of_below hb⟩

set_option maxRecDepth 100000 in
set_option maxHeartbeats 8000000 in
theorem ro_state (V w : World) (p : Nat) (F : Nat → Prop) (s : Q18.St) (k : Int) (hk : (Lit.int .i64 k).wf = true) (h : RoAt V w p F s) : Ob.Turns Try.prog (RoAt V) 20 #[Ob.ptr p, .int .i64 k] w p F s (.tuple #[.string ((Q18.get s.own k).getD ByteArray.empty), .bool (Q18.get s.own k).isSome]) := by
  have HA : Hid (∀ w', Below w.heap.size w w' → ∃ F', RoAt V w' p F' s ∧ (∀ g, F' g → F g ∨ w.heap.size ≤ g) ∧ Kept F w w') := fun w' hb => (h.turned (v := undef) hb).2
  obtain ⟨m, a, n, g1, g2, g3, g4, r, H, hx⟩ := h
  have hn : s.l.length = n := hx.n.symm
  have hn1 : (n : Int) ≤ 1000 := by have := hx.ok.n; omega
  have hl : s.own.length = n := by rw [hx.ok.own, hn]
  have HT : Hid (∀ b, Q18.inn n k = b → ∀ w', Below w.heap.size w w' → Calls Try.prog 32 #[Ob.ptr p, .int .i64 k] w' fun e w'' => e = .returned (.bool b) ∧ Below w'.heap.size w' w'') := fun b hb0 => hx.there k hk b hb0
  have HC : Hid (∀ w', Below w.heap.size w w' → w'.cell? ⟨p, 12, none⟩ = some (.slice (some ⟨g1, 0, none⟩) n n) ∧ w'.cell? ⟨p, 13, none⟩ = some (.slice (some ⟨g2, 0, none⟩) n n)) := fun w' hb => ⟨(hx.below hb).ro.row.c 12 _ rfl, (hx.below hb).ro.row.c 13 _ rfl⟩
  have HL : Hid (∀ (j : Nat) o, s.own[j]? = some o → ∀ w', Below w.heap.size w w' → w'.cell? ⟨g1, j, none⟩ = some (.string (o.getD ByteArray.empty)) ∧ w'.cell? ⟨g2, j, none⟩ = some (.bool o.isSome)) := fun j o ho w' hb => ⟨(hx.below hb).ro.o1.c j _ (oS_at ho), (hx.below hb).ro.o2.c j _ (oB_at ho)⟩
  unfold Ob.Turns
  clear hx hn hk
  by_cases hin : 0 ≤ k ∧ k < (n : Int)
  · obtain ⟨j, rfl⟩ := Int.eq_ofNat_of_zero_le hin.1
    have hjn : j < n := by omega
    have ji : (j : Int) < (n : Int) := hin.2
    have jb : (j : Int) < 1000 := by omega
    obtain ⟨o, ho⟩ : ∃ o, s.own[j]? = some o := ⟨_, List.getElem?_eq_getElem (by omega)⟩
    rw [Q18.get_nat ho]
    have HT1 : Hid (∀ w', Below w.heap.size w w' → Calls Try.prog 32 #[Ob.ptr p, .int .i64 (j : Int)] w' fun e w'' => e = .returned (.bool true) ∧ Below w'.heap.size w' w'') := HT.out true (Q18.inn_iff.2 hin)
    have HL1 : Hid (∀ w', Below w.heap.size w w' → w'.cell? ⟨g1, j, none⟩ = some (.string (o.getD ByteArray.empty)) ∧ w'.cell? ⟨g2, j, none⟩ = some (.bool o.isSome)) := HL.out j o ho
    clear HT HL hin hl ho
    go_enter Try.func20, Try.ntmps20
    go_wp2_with fail
    refine (HT1.out w (Below.refl _ _)).mono ?_
    rintro e w1 ⟨rfl, hb1⟩
    have HB1 : Hid (Below w.heap.size w w1) := hb1
    obtain ⟨e1, e2⟩ := HC.out _ hb1
    obtain ⟨e3, e4⟩ := HL1.out _ hb1
    clear hb1 HT1 HC HL1
    cases o with
    | none =>
      have e4' : w1.cell? ⟨g2, j, none⟩ = some (.bool false) := e4
      clear e4
      go_wp2
      go_ret2
      exact ⟨rfl, HA.out _ HB1.out⟩
    | some d =>
      have e4' : w1.cell? ⟨g2, j, none⟩ = some (.bool true) := e4
      have e3' : w1.cell? ⟨g1, j, none⟩ = some (.string d) := e3
      clear e4 e3
      go_wp2
      go_ret2
      exact ⟨rfl, HA.out _ HB1.out⟩
  · have HT1 : Hid (∀ w', Below w.heap.size w w' → Calls Try.prog 32 #[Ob.ptr p, .int .i64 k] w' fun e w'' => e = .returned (.bool false) ∧ Below w'.heap.size w' w'') := HT.out false (Q18.inn_no hin)
    rw [Q18.get_no (by rw [hl]; exact hin)]
    clear HT HL hin hl
    go_enter Try.func20, Try.ntmps20
    go_wp2_with fail
    refine (HT1.out w (Below.refl _ _)).mono ?_
    rintro e w1 ⟨rfl, hb1⟩
    have HB1 : Hid (Below w.heap.size w w1) := hb1
    clear hb1 HT1 HC
    go_wp2
    go_ret2
    exact ⟨rfl, HA.out _ HB1.out⟩

set_option maxRecDepth 100000 in
set_option maxHeartbeats 8000000 in
theorem ro_read (V w : World) (p : Nat) (F : Nat → Prop) (s : Q18.St) (k : Int) (hk : (Lit.int .i64 k).wf = true) (h : RoAt V w p F s) : Ob.Turns Try.prog (RoAt V) 22 #[Ob.ptr p, .int .i64 k] w p F s (.tuple #[.string ((Q18.get s.came k).getD ByteArray.empty), .bool (Q18.get s.came k).isSome]) := by
  have HA : Hid (∀ w', Below w.heap.size w w' → ∃ F', RoAt V w' p F' s ∧ (∀ g, F' g → F g ∨ w.heap.size ≤ g) ∧ Kept F w w') := fun w' hb => (h.turned (v := undef) hb).2
  obtain ⟨m, a, n, g1, g2, g3, g4, r, H, hx⟩ := h
  have hn : s.l.length = n := hx.n.symm
  have hn1 : (n : Int) ≤ 1000 := by have := hx.ok.n; omega
  have hl : s.came.length = n := by rw [hx.ok.came, hn]
  have HT : Hid (∀ b, Q18.inn n k = b → ∀ w', Below w.heap.size w w' → Calls Try.prog 32 #[Ob.ptr p, .int .i64 k] w' fun e w'' => e = .returned (.bool b) ∧ Below w'.heap.size w' w'') := fun b hb0 => hx.there k hk b hb0
  have HC : Hid (∀ w', Below w.heap.size w w' → w'.cell? ⟨p, 14, none⟩ = some (.slice (some ⟨g3, 0, none⟩) n n) ∧ w'.cell? ⟨p, 15, none⟩ = some (.slice (some ⟨g4, 0, none⟩) n n)) := fun w' hb => ⟨(hx.below hb).ro.row.c 14 _ rfl, (hx.below hb).ro.row.c 15 _ rfl⟩
  have HL : Hid (∀ (j : Nat) o, s.came[j]? = some o → ∀ w', Below w.heap.size w w' → w'.cell? ⟨g3, j, none⟩ = some (.string (o.getD ByteArray.empty)) ∧ w'.cell? ⟨g4, j, none⟩ = some (.bool o.isSome)) := fun j o ho w' hb => ⟨(hx.below hb).ro.o3.c j _ (oS_at ho), (hx.below hb).ro.o4.c j _ (oB_at ho)⟩
  unfold Ob.Turns
  clear hx hn hk
  by_cases hin : 0 ≤ k ∧ k < (n : Int)
  · obtain ⟨j, rfl⟩ := Int.eq_ofNat_of_zero_le hin.1
    have hjn : j < n := by omega
    have ji : (j : Int) < (n : Int) := hin.2
    have jb : (j : Int) < 1000 := by omega
    obtain ⟨o, ho⟩ : ∃ o, s.came[j]? = some o := ⟨_, List.getElem?_eq_getElem (by omega)⟩
    rw [Q18.get_nat ho]
    have HT1 : Hid (∀ w', Below w.heap.size w w' → Calls Try.prog 32 #[Ob.ptr p, .int .i64 (j : Int)] w' fun e w'' => e = .returned (.bool true) ∧ Below w'.heap.size w' w'') := HT.out true (Q18.inn_iff.2 hin)
    have HL1 : Hid (∀ w', Below w.heap.size w w' → w'.cell? ⟨g3, j, none⟩ = some (.string (o.getD ByteArray.empty)) ∧ w'.cell? ⟨g4, j, none⟩ = some (.bool o.isSome)) := HL.out j o ho
    clear HT HL hin hl ho
    go_enter Try.func22, Try.ntmps22
    go_wp2_with fail
    refine (HT1.out w (Below.refl _ _)).mono ?_
    rintro e w1 ⟨rfl, hb1⟩
    have HB1 : Hid (Below w.heap.size w w1) := hb1
    obtain ⟨e1, e2⟩ := HC.out _ hb1
    obtain ⟨e3, e4⟩ := HL1.out _ hb1
    clear hb1 HT1 HC HL1
    cases o with
    | none =>
      have e4' : w1.cell? ⟨g4, j, none⟩ = some (.bool false) := e4
      clear e4
      go_wp2
      go_ret2
      exact ⟨rfl, HA.out _ HB1.out⟩
    | some d =>
      have e4' : w1.cell? ⟨g4, j, none⟩ = some (.bool true) := e4
      have e3' : w1.cell? ⟨g3, j, none⟩ = some (.string d) := e3
      clear e4 e3
      go_wp2
      go_ret2
      exact ⟨rfl, HA.out _ HB1.out⟩
  · have HT1 : Hid (∀ w', Below w.heap.size w w' → Calls Try.prog 32 #[Ob.ptr p, .int .i64 k] w' fun e w'' => e = .returned (.bool false) ∧ Below w'.heap.size w' w'') := HT.out false (Q18.inn_no hin)
    rw [Q18.get_no (by rw [hl]; exact hin)]
    clear HT HL hin hl
    go_enter Try.func22, Try.ntmps22
    go_wp2_with fail
    refine (HT1.out w (Below.refl _ _)).mono ?_
    rintro e w1 ⟨rfl, hb1⟩
    have HB1 : Hid (Below w.heap.size w w1) := hb1
    clear hb1 HT1 HC
    go_wp2
    go_ret2
    exact ⟨rfl, HA.out _ HB1.out⟩
end Go.Proofs.Ytkgeknkppnadfaa
