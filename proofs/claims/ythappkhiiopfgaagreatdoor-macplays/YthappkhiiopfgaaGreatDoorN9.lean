/- The document's own node on the wire: Sample, outside of a frame, over its text. -/
import Derived.Test.YthappkhiiopfgaaGreatDoorN8
namespace Go.Proofs.YthappkhiiopfgaaGreatDoor
open Go.RowKit
set_option linter.unusedVariables false
set_option maxRecDepth 100000 in
set_option maxHeartbeats 2000000 in
theorem rsampOff_any (w : World) (p : Nat) (lf : Int) (fi sd hh x : Bool) (n : Int) (r : Bool) (d out : ByteArray) (at_ ar : Int) (q : Nat) (tk : Bool) (s g : Int) (c : UInt8) (h : MRow w p (mcs 5 lf fi sd hh x n r d out at_ ar q tk s g)) :
    Calls Tryz.prog 15 #[bptr p, .int .u8 (c.toNat : Int)] w fun e w' => e = .returned (.slice none 0 0) ∧ But p w w' ∧ MRow w' p (mcs 5 lf fi sd hh x n r d out at_ ar q tk s g) := by
  have HM : Hid (MRow w p (mcs 5 lf fi sd hh x n r d out at_ ar q tk s g)) := h
  have c0 : w.cell? ⟨p, 0, none⟩ = some (.int .i64 5) := h.c 0 _ rfl
  have f0 : w.frozen? ⟨p, 0, none⟩ = false := h.f 0
  clear h
  go_enter Tryz.func15, Tryz.ntmps15
  go_wp2
  go_ret
  exact ⟨rfl, But.refl _ _, HM.out⟩
set_option maxRecDepth 100000 in
set_option maxHeartbeats 2000000 in
theorem rsampFlag_any (w : World) (p : Nat) (l : Nat) (hl : l < 1000) (fi sd hh x : Bool) (n : Int) (r : Bool) (d out : ByteArray) (at_ ar : Int) (q : Nat) (tk : Bool) (s g : Int) (c : UInt8) (h : MRow w p (mcs 2 ((l + 1 : Nat) : Int) fi sd hh x n r d out at_ ar q tk s g)) :
    Calls Tryz.prog 15 #[bptr p, .int .u8 (c.toNat : Int)] w fun e w' => e = .returned (.slice none 0 0) ∧ But p w w' ∧ (l = 0 → MRow w' p (mcs 3 7 true sd hh x n r d out at_ ar q tk s g)) ∧ (l ≠ 0 → MRow w' p (mcs 2 l fi sd hh x n r d out at_ ar q tk s g)) := by
  have HM : Hid (MRow w p (mcs 2 ((l + 1 : Nat) : Int) fi sd hh x n r d out at_ ar q tk s g)) := h
  have c0 : w.cell? ⟨p, 0, none⟩ = some (.int .i64 2) := h.c 0 _ rfl
  have f0 : w.frozen? ⟨p, 0, none⟩ = false := h.f 0
  have c1 : w.cell? ⟨p, 1, none⟩ = some (.int .i64 ((l + 1 : Nat) : Int)) := h.c 1 _ rfl
  have f1 : w.frozen? ⟨p, 1, none⟩ = false := h.f 1
  have c2 : w.cell? ⟨p, 2, none⟩ = some (.bool fi) := h.c 2 _ rfl
  have f2 : w.frozen? ⟨p, 2, none⟩ = false := h.f 2
  clear h
  by_cases h0 : l = 0
  · subst h0
    go_enter Tryz.func15, Tryz.ntmps15
    go_wp2
    go_ret
    exact ⟨rfl, (But.refl p w).set1.set1.set1.set1, (fun _ => (((HM.out.set 1 _).set 0 _).set 1 _).set 2 _), fun e => absurd rfl e⟩
  · go_enter Tryz.func15, Tryz.ntmps15
    go_wp2
    go_ret
    exact ⟨rfl, (But.refl p w).set1, (fun e => absurd e h0), fun _ => HM.out.set 1 _⟩
theorem one_of (c : UInt8) : ((c.toNat : Int) != 48) = (c != 48) := by
  show (!_) = (!_)
  congr 1
  rw [Bool.eq_iff_iff]
  simp only [beq_iff_eq]
  constructor
  · intro h
    apply UInt8.toNat_inj.1
    exact Int.ofNat.inj h
  · intro h; subst h; rfl
set_option maxRecDepth 100000 in
set_option maxHeartbeats 2000000 in
theorem rsampReco_any (w : World) (p : Nat) (lf : Nat) (hl : 1 ≤ lf ∧ lf ≤ 7) (fi sd hh x : Bool) (n : Int) (r : Bool) (d out : ByteArray) (at_ ar : Int) (q : Nat) (tk : Bool) (s g : Int) (c : UInt8) (h : MRow w p (mcs 3 lf fi sd hh x n r d out at_ ar q tk s g)) :
    Calls Tryz.prog 15 #[bptr p, .int .u8 (c.toNat : Int)] w fun e w' => e = .returned (.slice none 0 0) ∧ But p w w' ∧
      MRow w' p (if fi then mcs 3 lf (!(c != 48)) sd hh x n r d out at_ ar q tk s g else if (c != 48) = false then mcs 3 7 fi sd hh x n r d out at_ ar q tk s g else if lf = 1 then mcs 4 3 fi sd hh x n r d out at_ ar q tk s g else mcs 3 ((lf : Int) - 1) fi sd hh x n r d out at_ ar q tk s g) := by
  have HC : Hid (∀ _ : Unit, Calls Tryz.prog 41 #[bptr p, .bool (c != 48)] w fun e w' => e = .returned (.tuple #[]) ∧ But p w w' ∧ MRow w' p (if fi then mcs 3 lf (!(c != 48)) sd hh x n r d out at_ ar q tk s g else if (c != 48) = false then mcs 3 7 fi sd hh x n r d out at_ ar q tk s g else if lf = 1 then mcs 4 3 fi sd hh x n r d out at_ ar q tk s g else mcs 3 ((lf : Int) - 1) fi sd hh x n r d out at_ ar q tk s g)) := fun _ => rrecover_any w p 3 lf hl fi sd hh x n r d out at_ ar q tk s g (c != 48) h
  have h48 := one_of c
  have c0 : w.cell? ⟨p, 0, none⟩ = some (.int .i64 3) := h.c 0 _ rfl
  have f0 : w.frozen? ⟨p, 0, none⟩ = false := h.f 0
  clear h
  generalize (if fi then mcs 3 lf (!(c != 48)) sd hh x n r d out at_ ar q tk s g else if (c != 48) = false then mcs 3 7 fi sd hh x n r d out at_ ar q tk s g else if lf = 1 then mcs 4 3 fi sd hh x n r d out at_ ar q tk s g else mcs 3 ((lf : Int) - 1) fi sd hh x n r d out at_ ar q tk s g) = CS at *
  go_enter Tryz.func15, Tryz.ntmps15
  go_wp2_with fail
  refine (HC.out ()).mono ?_
  rintro e w1 ⟨rfl, h1, h2⟩
  have HE : Hid (But p w w1 ∧ MRow w1 p CS) := ⟨h1, h2⟩
  clear h1 h2 HC c0 f0 h48
  go_wp2
  go_ret
  exact ⟨rfl, HE.out⟩
set_option maxRecDepth 100000 in
set_option maxHeartbeats 2000000 in
theorem rsampPause1_any (w : World) (p : Nat) (l : Nat) (hl : l < 1000) (fi sd hh x : Bool) (n : Int) (r : Bool) (d out : ByteArray) (at_ ar : Int) (q : Nat) (tk : Bool) (s g : Int) (c : UInt8) (hc : (c != 48) = true) (h : MRow w p (mcs 4 ((l + 1 : Nat) : Int) fi sd hh x n r d out at_ ar q tk s g)) :
    Calls Tryz.prog 15 #[bptr p, .int .u8 (c.toNat : Int)] w fun e w' => e = .returned (.slice none 0 0) ∧ But p w w' ∧ (l = 0 → MRow w' p (mcs 0 0 fi sd hh x n r d out at_ ar q tk s g)) ∧ (l ≠ 0 → MRow w' p (mcs 4 l fi sd hh x n r d out at_ ar q tk s g)) := by
  have HM : Hid (MRow w p (mcs 4 ((l + 1 : Nat) : Int) fi sd hh x n r d out at_ ar q tk s g)) := h
  have h48 := (one_of c).trans hc
  have c0 : w.cell? ⟨p, 0, none⟩ = some (.int .i64 4) := h.c 0 _ rfl
  have f0 : w.frozen? ⟨p, 0, none⟩ = false := h.f 0
  have c1 : w.cell? ⟨p, 1, none⟩ = some (.int .i64 ((l + 1 : Nat) : Int)) := h.c 1 _ rfl
  have f1 : w.frozen? ⟨p, 1, none⟩ = false := h.f 1
  clear h
  by_cases h0 : l = 0
  · subst h0
    go_enter Tryz.func15, Tryz.ntmps15
    go_wp2
    go_ret
    exact ⟨rfl, (But.refl p w).set1.set1, (fun _ => (HM.out.set 1 _).set 0 _), fun e => absurd rfl e⟩
  · go_enter Tryz.func15, Tryz.ntmps15
    go_wp2
    go_ret
    exact ⟨rfl, (But.refl p w).set1, (fun e => absurd e h0), fun _ => HM.out.set 1 _⟩
set_option maxRecDepth 100000 in
set_option maxHeartbeats 2000000 in
theorem rsampPause0_any (w : World) (p : Nat) (lf : Int) (fi sd hh x : Bool) (n : Int) (r : Bool) (d out : ByteArray) (at_ ar : Int) (q : Nat) (tk : Bool) (s g : Int) (c : UInt8) (hc : (c != 48) = false) (h : MRow w p (mcs 4 lf fi sd hh x n r d out at_ ar q tk s g)) :
    Calls Tryz.prog 15 #[bptr p, .int .u8 (c.toNat : Int)] w fun e w' => ∃ sl cap q', e = .returned (.slice sl 1 cap) ∧ EvAt w.heap.size w' sl cap [⟨6, Cm.noF, 0⟩] ∧ w.heap.size ≤ q' ∧ q' < w'.heap.size ∧
      (∃ S R, w'.heap[q']? = some (.cells (rdc S (Mm.feed [false]) R) 66 (0, 0)) ∧ Inv (Mm.feed [false]) R S.size ∧ S.size = 1) ∧ But p w w' ∧ MRow w' p (mcs 1 lf fi false hh x n r d out at_ ar q' false s g) := by
  have HC : Hid (∀ _ : Unit, _) := fun _ : Unit => rbegin0_any w p 4 lf fi sd hh x n r d out at_ ar q tk s g h
  have h48 := (one_of c).trans hc
  have c0 : w.cell? ⟨p, 0, none⟩ = some (.int .i64 4) := h.c 0 _ rfl
  have f0 : w.frozen? ⟨p, 0, none⟩ = false := h.f 0
  clear h
  go_enter Tryz.func15, Tryz.ntmps15
  go_wp2_with fail
  refine (HC.out ()).mono ?_
  rintro e w1 ⟨sl, cap, q', rfl, h1⟩
  have HE : Hid (_) := h1
  clear h1 HC c0 f0 h48
  go_wp2
  go_ret
  exact ⟨_, _, _, rfl, HE.out⟩
set_option maxRecDepth 100000 in
set_option maxHeartbeats 2000000 in
theorem rsampIdle1_any (w : World) (p : Nat) (lf : Int) (fi sd hh x : Bool) (n : Int) (r : Bool) (d out : ByteArray) (at_ ar : Int) (q : Nat) (tk : Bool) (s g : Int) (c : UInt8) (hc : (c != 48) = true) (h : MRow w p (mcs 0 lf fi sd hh x n r d out at_ ar q tk s g)) :
    Calls Tryz.prog 15 #[bptr p, .int .u8 (c.toNat : Int)] w fun e w' => e = .returned (.slice none 0 0) ∧ But p w w' ∧ MRow w' p (mcs 0 lf fi sd hh x n r d out at_ ar q tk s g) := by
  have HM : Hid (MRow w p (mcs 0 lf fi sd hh x n r d out at_ ar q tk s g)) := h
  have h48 := (one_of c).trans hc
  have c0 : w.cell? ⟨p, 0, none⟩ = some (.int .i64 0) := h.c 0 _ rfl
  have f0 : w.frozen? ⟨p, 0, none⟩ = false := h.f 0
  clear h
  go_enter Tryz.func15, Tryz.ntmps15
  go_wp2
  go_ret
  exact ⟨rfl, But.refl _ _, HM.out⟩
set_option maxRecDepth 100000 in
set_option maxHeartbeats 2000000 in
theorem rsampIdle0_any (w : World) (p : Nat) (lf : Int) (fi sd x : Bool) (n : Int) (r : Bool) (d out : ByteArray) (at_ ar : Int) (q : Nat) (tk : Bool) (s g : Int) (c : UInt8) (hc : (c != 48) = false) (h : MRow w p (mcs 0 lf fi sd false x n r d out at_ ar q tk s g)) :
    Calls Tryz.prog 15 #[bptr p, .int .u8 (c.toNat : Int)] w fun e w' => ∃ sl cap q', e = .returned (.slice sl 1 cap) ∧ EvAt w.heap.size w' sl cap [⟨6, Cm.noF, 0⟩] ∧ w.heap.size ≤ q' ∧ q' < w'.heap.size ∧
      (∃ S R, w'.heap[q']? = some (.cells (rdc S (Mm.feed [false]) R) 66 (0, 0)) ∧ Inv (Mm.feed [false]) R S.size ∧ S.size = 1) ∧ But p w w' ∧ MRow w' p (mcs 1 lf fi false false x n r d out at_ ar q' false s g) := by
  have HC : Hid (∀ _ : Unit, _) := fun _ : Unit => rbegin0_any w p 0 lf fi sd false x n r d out at_ ar q tk s g h
  have h48 := (one_of c).trans hc
  have c0 : w.cell? ⟨p, 0, none⟩ = some (.int .i64 0) := h.c 0 _ rfl
  have f0 : w.frozen? ⟨p, 0, none⟩ = false := h.f 0
  have c4 : w.cell? ⟨p, 4, none⟩ = some (.bool false) := h.c 4 _ rfl
  have f4 : w.frozen? ⟨p, 4, none⟩ = false := h.f 4
  clear h
  go_enter Tryz.func15, Tryz.ntmps15
  go_wp2_with fail
  refine (HC.out ()).mono ?_
  rintro e w1 ⟨sl, cap, q', rfl, h1⟩
  have HE : Hid (_) := h1
  clear h1 HC c0 f0 c4 f4 h48
  go_wp2
  go_ret
  exact ⟨_, _, _, rfl, HE.out⟩
set_option maxRecDepth 100000 in
set_option maxHeartbeats 2000000 in
theorem rsampIdle2_any (w : World) (p : Nat) (lf : Int) (fi sd : Bool) (f : Cm.Fr) (hF : Mm.isFr f = true) (out : ByteArray) (at_ ar : Int) (q : Nat) (tk : Bool) (s g : Int) (c : UInt8) (hc : (c != 48) = false) (h : MRow w p (mcs 0 lf fi sd true f.1 f.2.1 f.2.2.1 ⟨f.2.2.2.toArray⟩ out at_ ar q tk s g)) :
    Calls Tryz.prog 15 #[bptr p, .int .u8 (c.toNat : Int)] w fun e w' => ∃ sl cap q', e = .returned (.slice sl 1 cap) ∧ EvAt w.heap.size w' sl cap [⟨6, Cm.noF, 0⟩] ∧ w.heap.size ≤ q' ∧ q' < w'.heap.size ∧
      (∃ S R, w'.heap[q']? = some (.cells (rdc S (Mm.feed [false]) R) 66 (0, 0)) ∧ Inv (Mm.feed [false]) R S.size ∧ S.size = 1) ∧ But p w w' ∧ MRow w' p (mcs 1 lf fi true false f.1 f.2.1 f.2.2.1 ⟨f.2.2.2.toArray⟩ ⟨(Bm.row (Mm.outB f)).toArray⟩ 1 (Mm.arbL f) q' false s g) := by
  have HC : Hid (∀ _ : Unit, _) := fun _ : Unit => rbegin1_any w p 0 lf fi sd true f hF out at_ ar q tk s g h
  have h48 := (one_of c).trans hc
  have c0 : w.cell? ⟨p, 0, none⟩ = some (.int .i64 0) := h.c 0 _ rfl
  have f0 : w.frozen? ⟨p, 0, none⟩ = false := h.f 0
  have c4 : w.cell? ⟨p, 4, none⟩ = some (.bool true) := h.c 4 _ rfl
  have f4 : w.frozen? ⟨p, 4, none⟩ = false := h.f 4
  clear h hF
  go_enter Tryz.func15, Tryz.ntmps15
  go_wp2_with fail
  refine (HC.out ()).mono ?_
  rintro e w1 ⟨sl, cap, q', rfl, h1⟩
  have HE : Hid (_) := h1
  clear h1 HC c0 f0 c4 f4 h48
  go_wp2
  go_ret
  exact ⟨_, _, _, rfl, HE.out⟩
end Go.Proofs.YthappkhiiopfgaaGreatDoor
