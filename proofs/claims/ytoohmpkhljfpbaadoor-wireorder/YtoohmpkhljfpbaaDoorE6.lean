/- Package mac, over the landed code: hear. -/
import Derived.Test.YtoohmpkhljfpbaaDoorE3
import Derived.Test.YtoohmpkhljfpbaaDoorYd
namespace Go.Proofs.YtoohmpkhljfpbaaDoor
open Go.RowKit
set_option linter.unusedVariables false
theorem cell_heap {w w' : World} {b : Nat} (h : w'.heap[b]? = w.heap[b]?) (k : Nat) : w'.cell? ⟨b, k, none⟩ = w.cell? ⟨b, k, none⟩ := by
  unfold World.cell?
  rw [h]
theorem tab_ne {w : World} {p : Nat} {k l : Int} {row : ByteArray} {x : Bool} {n : Int} {r : Bool} {d wire : ByteArray} {s g : Int} (hT : Tab w) (h : LRow w p (lcs k l row x n r d wire s g)) : ¬ 0 = p := by
  rintro rfl
  have h1 := (hT.2 1 (11, 11) rfl).1
  have h2 : w.cell? ⟨0, 2, none⟩ = some (.string row) := h.c 2 _ rfl
  rw [h2] at h1
  cases h1
theorem Tab.kp {w w' : World} {p : Nat} (h : Tab w) (hp : ¬ 0 = p) (hk : Kp p w w') : Tab w' :=
  ⟨Nat.lt_of_lt_of_le h.1 hk.size, fun k z hz => ⟨(cell_heap (hk.block _ h.1 hp) _).trans (h.2 k z hz).1, (cell_heap (hk.block _ h.1 hp) _).trans (h.2 k z hz).2⟩⟩
set_option maxRecDepth 100000 in
set_option maxHeartbeats 4000000 in
theorem lhear_end (w : World) (p : Nat) (row : ByteArray) (x : Bool) (n : Int) (r : Bool) (d wire : ByteArray) (s g : Int) (bit : ByteArray) (h : LRow w p (lcs 2 1 row x n r d wire s g)) :
    Calls Tryd.prog 52 #[bptr p, .string bit] w fun e w' => Told w p [] (lcs 5 3 ⟨#[]⟩ x n r d wire s g) e w' := by
  have hlt := h.lt
  have HM : Hid (LRow w p (lcs 2 1 row x n r d wire s g)) := h
  have HL : Hid (∀ w, Calls Tryd.prog 54 #[phV 2 1] w fun e w' => e = .returned (phV 5 3) ∧ Below w.heap.size w w') := fun w => less_end 2 (Or.inr (Or.inl rfl)) w
  have c0 : w.cell? ⟨p, 0, none⟩ = some (.int .i64 2) := h.c 0 _ rfl
  have f0 : w.frozen? ⟨p, 0, none⟩ = false := h.f 0
  have c1 : w.cell? ⟨p, 1, none⟩ = some (.int .i64 1) := h.c 1 _ rfl
  have f1 : w.frozen? ⟨p, 1, none⟩ = false := h.f 1
  have c2 : w.cell? ⟨p, 2, none⟩ = some (.string row) := h.c 2 _ rfl
  have f2 : w.frozen? ⟨p, 2, none⟩ = false := h.f 2
  have a0 : ∀ o, (w.alloc o).cell? ⟨p, 0, none⟩ = some (.int .i64 2) := fun o => (h.alloc o).c 0 _ rfl
  have b0 : ∀ o, (w.alloc o).frozen? ⟨p, 0, none⟩ = false := fun o => (h.alloc o).f 0
  have a1 : ∀ o, (w.alloc o).cell? ⟨p, 1, none⟩ = some (.int .i64 1) := fun o => (h.alloc o).c 1 _ rfl
  have b1 : ∀ o, (w.alloc o).frozen? ⟨p, 1, none⟩ = false := fun o => (h.alloc o).f 1
  have a2 : ∀ o, (w.alloc o).cell? ⟨p, 2, none⟩ = some (.string row) := fun o => (h.alloc o).c 2 _ rfl
  have b2 : ∀ o, (w.alloc o).frozen? ⟨p, 2, none⟩ = false := fun o => (h.alloc o).f 2
  clear h
  go_enter Tryd.func52, Tryd.ntmps52
  go_wp2_with fail
  refine (HL.out _).mono ?_
  rintro e w2 ⟨rfl, hb⟩
  have hm := HM.out.on hb
  have HM2 : Hid (LRow w2 p (lcs 2 1 row x n r d wire s g)) := hm
  have HK2 : Hid (Kp p w w2) := Kp.of hb
  clear c0 c1 c2 f0 f1 f2 a0 a1 a2 b0 b1 b2
  have c0 : w2.cell? ⟨p, 0, none⟩ = some (.int .i64 2) := hm.c 0 _ rfl
  have f0 : w2.frozen? ⟨p, 0, none⟩ = false := hm.f 0
  have c1 : w2.cell? ⟨p, 1, none⟩ = some (.int .i64 1) := hm.c 1 _ rfl
  have f1 : w2.frozen? ⟨p, 1, none⟩ = false := hm.f 1
  have c2 : w2.cell? ⟨p, 2, none⟩ = some (.string row) := hm.c 2 _ rfl
  have f2 : w2.frozen? ⟨p, 2, none⟩ = false := hm.f 2
  clear hm hb HM HL
  go_wp2
  go_ret
  exact ⟨_, _, rfl, EvAt.empty _ _, Kp.set1 (Kp.set1 (Kp.set1 HK2.out)), ((HM2.out.set 2 _).set 0 _).set 1 _⟩
set_option maxRecDepth 100000 in
set_option maxHeartbeats 4000000 in
theorem lhear_on (w : World) (p : Nat) (l : Int) (row : ByteArray) (x : Bool) (n : Int) (r : Bool) (d wire : ByteArray) (s g : Int) (c : UInt8) (X : Bool) (N : Nat) (R : Bool) (D : ByteArray) (lg er : Nat) (hl : (l == 1) = false) (hr : row.size ≤ 1000) (hlg : lg ≤ 2000) (her : er ≤ 1000) (hT : Tab w) (he : er = 0) (hle : row.size + 1 ≤ lg) (hne : lg ≠ row.size + 2)
    (hD : ∀ w, Tab w → Calls Tryd.prog 70 #[.string (row ++ ⟨#[c]⟩ ++ ⟨#[49, 49, 49, 49, 49, 49, 49, 49, 49]⟩)] w fun e w' => e = .returned (.tuple #[.agg #[.bool X, .int .u32 (N : Int), .bool R, .string D], .int .i64 (lg : Int), .int .i64 (er : Int)]) ∧ Below w.heap.size w w') (h : LRow w p (lcs 2 l row x n r d wire s g)) :
    Calls Tryd.prog 52 #[bptr p, .string ⟨#[c]⟩] w fun e w' => Told w p ([]) (lcs 2 ((lg : Int) - ((row.size : Int) + 1)) (row ++ ⟨#[c]⟩) x n r d wire s g) e w' := by
  have hlt := h.lt
  have HM : Hid (LRow w p (lcs 2 l row x n r d wire s g)) := h
  have HG : Hid (¬ 0 = p) := tab_ne hT h
  have HT : Hid (Tab w) := hT
  have HD : Hid (∀ w, Tab w → Calls Tryd.prog 70 #[.string (row ++ ⟨#[c]⟩ ++ ⟨#[49, 49, 49, 49, 49, 49, 49, 49, 49]⟩)] w fun e w' => e = .returned (.tuple #[.agg #[.bool X, .int .u32 (N : Int), .bool R, .string D], .int .i64 (lg : Int), .int .i64 (er : Int)]) ∧ Below w.heap.size w w') := hD
  have c0 : w.cell? ⟨p, 0, none⟩ = some (.int .i64 2) := h.c 0 _ rfl
  have f0 : w.frozen? ⟨p, 0, none⟩ = false := h.f 0
  have c1 : w.cell? ⟨p, 1, none⟩ = some (.int .i64 l) := h.c 1 _ rfl
  have f1 : w.frozen? ⟨p, 1, none⟩ = false := h.f 1
  have c2 : w.cell? ⟨p, 2, none⟩ = some (.string row) := h.c 2 _ rfl
  have f2 : w.frozen? ⟨p, 2, none⟩ = false := h.f 2
  have a0 : ∀ o, (w.alloc o).cell? ⟨p, 0, none⟩ = some (.int .i64 2) := fun o => (h.alloc o).c 0 _ rfl
  have b0 : ∀ o, (w.alloc o).frozen? ⟨p, 0, none⟩ = false := fun o => (h.alloc o).f 0
  have a1 : ∀ o, (w.alloc o).cell? ⟨p, 1, none⟩ = some (.int .i64 l) := fun o => (h.alloc o).c 1 _ rfl
  have b1 : ∀ o, (w.alloc o).frozen? ⟨p, 1, none⟩ = false := fun o => (h.alloc o).f 1
  have a2 : ∀ o, (w.alloc o).cell? ⟨p, 2, none⟩ = some (.string row) := fun o => (h.alloc o).c 2 _ rfl
  have b2 : ∀ o, (w.alloc o).frozen? ⟨p, 2, none⟩ = false := fun o => (h.alloc o).f 2
  have hz : (row ++ ⟨#[c]⟩ : ByteArray).size = row.size + 1 := by rw [ByteArray.size_append]; rfl
  subst he
  have hne2 : ((lg : Int) - ((row.size : Int) + 1) == 1) = false := by simp; omega
  clear h hD hT
  go_enter Tryd.func52, Tryd.ntmps52
  go_wp2_with fail
  have HM1 : Hid (LRow (w.setCell ⟨p, 2, none⟩ (.string (row ++ ⟨#[c]⟩))) p (lcs 2 l (row ++ ⟨#[c]⟩) x n r d wire s g)) := HM.out.set 2 _
  have HK1 : Hid (Kp p w (w.setCell ⟨p, 2, none⟩ (.string (row ++ ⟨#[c]⟩)))) := Kp.set1 (Kept.refl _ w)
  refine (HD.out _ (HT.out.kp HG.out HK1.out)).mono ?_
  rintro e w2 ⟨rfl, hb⟩
  have hm := HM1.out.on hb
  have HM2 : Hid (LRow w2 p (lcs 2 l (row ++ ⟨#[c]⟩) x n r d wire s g)) := hm
  have HK2 : Hid (Kp p w w2) := HK1.out.join hb
  clear c0 c1 c2 f0 f1 f2 a0 a1 a2 b0 b1 b2 HM HM1 HK1 hb HT HD HG
  generalize hrow : row ++ ⟨#[c]⟩ = row2 at *
  have HW : Hid (row ++ ⟨#[c]⟩ = row2) := hrow
  clear hrow
  have hp2 : p < w2.heap.size := hm.lt
  have hpw : ¬ p = w2.heap.size := Nat.ne_of_lt hp2
  have hwp : ¬ w2.heap.size = p := fun e => hpw e.symm
  have c0 : w2.cell? ⟨p, 0, none⟩ = some (.int .i64 2) := hm.c 0 _ rfl
  have f0 : w2.frozen? ⟨p, 0, none⟩ = false := hm.f 0
  have c1 : w2.cell? ⟨p, 1, none⟩ = some (.int .i64 l) := hm.c 1 _ rfl
  have f1 : w2.frozen? ⟨p, 1, none⟩ = false := hm.f 1
  have c2 : w2.cell? ⟨p, 2, none⟩ = some (.string row2) := hm.c 2 _ rfl
  have f2 : w2.frozen? ⟨p, 2, none⟩ = false := hm.f 2
  have c8 : w2.cell? ⟨p, 8, none⟩ = some (.int .i64 s) := hm.c 8 _ rfl
  have f8 : w2.frozen? ⟨p, 8, none⟩ = false := hm.f 8
  have c9 : w2.cell? ⟨p, 9, none⟩ = some (.int .i64 g) := hm.c 9 _ rfl
  have f9 : w2.frozen? ⟨p, 9, none⟩ = false := hm.f 9
  have a0 : ∀ o, (w2.alloc o).cell? ⟨p, 0, none⟩ = some (.int .i64 2) := fun o => (hm.alloc o).c 0 _ rfl
  have b0 : ∀ o, (w2.alloc o).frozen? ⟨p, 0, none⟩ = false := fun o => (hm.alloc o).f 0
  have a1 : ∀ o, (w2.alloc o).cell? ⟨p, 1, none⟩ = some (.int .i64 l) := fun o => (hm.alloc o).c 1 _ rfl
  have b1 : ∀ o, (w2.alloc o).frozen? ⟨p, 1, none⟩ = false := fun o => (hm.alloc o).f 1
  have a2 : ∀ o, (w2.alloc o).cell? ⟨p, 2, none⟩ = some (.string row2) := fun o => (hm.alloc o).c 2 _ rfl
  have b2 : ∀ o, (w2.alloc o).frozen? ⟨p, 2, none⟩ = false := fun o => (hm.alloc o).f 2
  have a8 : ∀ o, (w2.alloc o).cell? ⟨p, 8, none⟩ = some (.int .i64 s) := fun o => (hm.alloc o).c 8 _ rfl
  have b8 : ∀ o, (w2.alloc o).frozen? ⟨p, 8, none⟩ = false := fun o => (hm.alloc o).f 8
  have a9 : ∀ o, (w2.alloc o).cell? ⟨p, 9, none⟩ = some (.int .i64 g) := fun o => (hm.alloc o).c 9 _ rfl
  have b9 : ∀ o, (w2.alloc o).frozen? ⟨p, 9, none⟩ = false := fun o => (hm.alloc o).f 9
  clear hm
  go_wp2
  go_ret
  rw [HW.out]
  exact ⟨_, _, rfl, EvAt.empty _ _, Kp.alloc (Kp.set1 HK2.out) _, (HM2.out.set 1 _).alloc _⟩
set_option maxRecDepth 100000 in
set_option maxHeartbeats 4000000 in
theorem lhear_wait (w : World) (p : Nat) (l : Int) (row : ByteArray) (x : Bool) (n : Int) (r : Bool) (d wire : ByteArray) (s g : Int) (c : UInt8) (X : Bool) (N : Nat) (R : Bool) (D : ByteArray) (lg er : Nat) (hl : (l == 1) = false) (hr : row.size ≤ 1000) (hlg : lg ≤ 2000) (her : er ≤ 1000) (hT : Tab w) (he : (er == 0) = false) (hle : row.size + 1 ≤ lg)
    (hD : ∀ w, Tab w → Calls Tryd.prog 70 #[.string (row ++ ⟨#[c]⟩ ++ ⟨#[49, 49, 49, 49, 49, 49, 49, 49, 49]⟩)] w fun e w' => e = .returned (.tuple #[.agg #[.bool X, .int .u32 (N : Int), .bool R, .string D], .int .i64 (lg : Int), .int .i64 (er : Int)]) ∧ Below w.heap.size w w') (h : LRow w p (lcs 2 l row x n r d wire s g)) :
    Calls Tryd.prog 52 #[bptr p, .string ⟨#[c]⟩] w fun e w' => Told w p ([]) (lcs 2 l (row ++ ⟨#[c]⟩) x n r d wire s g) e w' := by
  have hlt := h.lt
  have HM : Hid (LRow w p (lcs 2 l row x n r d wire s g)) := h
  have HG : Hid (¬ 0 = p) := tab_ne hT h
  have HT : Hid (Tab w) := hT
  have HD : Hid (∀ w, Tab w → Calls Tryd.prog 70 #[.string (row ++ ⟨#[c]⟩ ++ ⟨#[49, 49, 49, 49, 49, 49, 49, 49, 49]⟩)] w fun e w' => e = .returned (.tuple #[.agg #[.bool X, .int .u32 (N : Int), .bool R, .string D], .int .i64 (lg : Int), .int .i64 (er : Int)]) ∧ Below w.heap.size w w') := hD
  have c0 : w.cell? ⟨p, 0, none⟩ = some (.int .i64 2) := h.c 0 _ rfl
  have f0 : w.frozen? ⟨p, 0, none⟩ = false := h.f 0
  have c1 : w.cell? ⟨p, 1, none⟩ = some (.int .i64 l) := h.c 1 _ rfl
  have f1 : w.frozen? ⟨p, 1, none⟩ = false := h.f 1
  have c2 : w.cell? ⟨p, 2, none⟩ = some (.string row) := h.c 2 _ rfl
  have f2 : w.frozen? ⟨p, 2, none⟩ = false := h.f 2
  have a0 : ∀ o, (w.alloc o).cell? ⟨p, 0, none⟩ = some (.int .i64 2) := fun o => (h.alloc o).c 0 _ rfl
  have b0 : ∀ o, (w.alloc o).frozen? ⟨p, 0, none⟩ = false := fun o => (h.alloc o).f 0
  have a1 : ∀ o, (w.alloc o).cell? ⟨p, 1, none⟩ = some (.int .i64 l) := fun o => (h.alloc o).c 1 _ rfl
  have b1 : ∀ o, (w.alloc o).frozen? ⟨p, 1, none⟩ = false := fun o => (h.alloc o).f 1
  have a2 : ∀ o, (w.alloc o).cell? ⟨p, 2, none⟩ = some (.string row) := fun o => (h.alloc o).c 2 _ rfl
  have b2 : ∀ o, (w.alloc o).frozen? ⟨p, 2, none⟩ = false := fun o => (h.alloc o).f 2
  have hz : (row ++ ⟨#[c]⟩ : ByteArray).size = row.size + 1 := by rw [ByteArray.size_append]; rfl
  have he2 : ((er : Int) == 0) = false := by simpa using he
  clear h hD hT
  go_enter Tryd.func52, Tryd.ntmps52
  go_wp2_with fail
  have HM1 : Hid (LRow (w.setCell ⟨p, 2, none⟩ (.string (row ++ ⟨#[c]⟩))) p (lcs 2 l (row ++ ⟨#[c]⟩) x n r d wire s g)) := HM.out.set 2 _
  have HK1 : Hid (Kp p w (w.setCell ⟨p, 2, none⟩ (.string (row ++ ⟨#[c]⟩)))) := Kp.set1 (Kept.refl _ w)
  refine (HD.out _ (HT.out.kp HG.out HK1.out)).mono ?_
  rintro e w2 ⟨rfl, hb⟩
  have hm := HM1.out.on hb
  have HM2 : Hid (LRow w2 p (lcs 2 l (row ++ ⟨#[c]⟩) x n r d wire s g)) := hm
  have HK2 : Hid (Kp p w w2) := HK1.out.join hb
  clear c0 c1 c2 f0 f1 f2 a0 a1 a2 b0 b1 b2 HM HM1 HK1 hb HT HD HG
  generalize hrow : row ++ ⟨#[c]⟩ = row2 at *
  have HW : Hid (row ++ ⟨#[c]⟩ = row2) := hrow
  clear hrow
  have hp2 : p < w2.heap.size := hm.lt
  have hpw : ¬ p = w2.heap.size := Nat.ne_of_lt hp2
  have hwp : ¬ w2.heap.size = p := fun e => hpw e.symm
  have c0 : w2.cell? ⟨p, 0, none⟩ = some (.int .i64 2) := hm.c 0 _ rfl
  have f0 : w2.frozen? ⟨p, 0, none⟩ = false := hm.f 0
  have c1 : w2.cell? ⟨p, 1, none⟩ = some (.int .i64 l) := hm.c 1 _ rfl
  have f1 : w2.frozen? ⟨p, 1, none⟩ = false := hm.f 1
  have c2 : w2.cell? ⟨p, 2, none⟩ = some (.string row2) := hm.c 2 _ rfl
  have f2 : w2.frozen? ⟨p, 2, none⟩ = false := hm.f 2
  have c8 : w2.cell? ⟨p, 8, none⟩ = some (.int .i64 s) := hm.c 8 _ rfl
  have f8 : w2.frozen? ⟨p, 8, none⟩ = false := hm.f 8
  have c9 : w2.cell? ⟨p, 9, none⟩ = some (.int .i64 g) := hm.c 9 _ rfl
  have f9 : w2.frozen? ⟨p, 9, none⟩ = false := hm.f 9
  have a0 : ∀ o, (w2.alloc o).cell? ⟨p, 0, none⟩ = some (.int .i64 2) := fun o => (hm.alloc o).c 0 _ rfl
  have b0 : ∀ o, (w2.alloc o).frozen? ⟨p, 0, none⟩ = false := fun o => (hm.alloc o).f 0
  have a1 : ∀ o, (w2.alloc o).cell? ⟨p, 1, none⟩ = some (.int .i64 l) := fun o => (hm.alloc o).c 1 _ rfl
  have b1 : ∀ o, (w2.alloc o).frozen? ⟨p, 1, none⟩ = false := fun o => (hm.alloc o).f 1
  have a2 : ∀ o, (w2.alloc o).cell? ⟨p, 2, none⟩ = some (.string row2) := fun o => (hm.alloc o).c 2 _ rfl
  have b2 : ∀ o, (w2.alloc o).frozen? ⟨p, 2, none⟩ = false := fun o => (hm.alloc o).f 2
  have a8 : ∀ o, (w2.alloc o).cell? ⟨p, 8, none⟩ = some (.int .i64 s) := fun o => (hm.alloc o).c 8 _ rfl
  have b8 : ∀ o, (w2.alloc o).frozen? ⟨p, 8, none⟩ = false := fun o => (hm.alloc o).f 8
  have a9 : ∀ o, (w2.alloc o).cell? ⟨p, 9, none⟩ = some (.int .i64 g) := fun o => (hm.alloc o).c 9 _ rfl
  have b9 : ∀ o, (w2.alloc o).frozen? ⟨p, 9, none⟩ = false := fun o => (hm.alloc o).f 9
  clear hm
  go_wp2
  go_ret
  rw [HW.out]
  exact ⟨_, _, rfl, EvAt.empty _ _, Kp.alloc HK2.out _, HM2.out.alloc _⟩
set_option maxRecDepth 100000 in
set_option maxHeartbeats 4000000 in
theorem lhear_bad (w : World) (p : Nat) (l : Int) (row : ByteArray) (x : Bool) (n : Int) (r : Bool) (d wire : ByteArray) (s g : Int) (c : UInt8) (X : Bool) (N : Nat) (R : Bool) (D : ByteArray) (lg er : Nat) (hl : (l == 1) = false) (hr : row.size ≤ 1000) (hlg : lg ≤ 2000) (her : er ≤ 1000) (hT : Tab w) (he : (er == 0) = false) (hle : lg < row.size + 1) (hc : Km.isC s g = true)
    (hD : ∀ w, Tab w → Calls Tryd.prog 70 #[.string (row ++ ⟨#[c]⟩ ++ ⟨#[49, 49, 49, 49, 49, 49, 49, 49, 49]⟩)] w fun e w' => e = .returned (.tuple #[.agg #[.bool X, .int .u32 (N : Int), .bool R, .string D], .int .i64 (lg : Int), .int .i64 (er : Int)]) ∧ Below w.heap.size w w') (h : LRow w p (lcs 2 l row x n r d wire s g)) :
    Calls Tryd.prog 52 #[bptr p, .string ⟨#[c]⟩] w fun e w' => Told w p (fev s ⟨5, Cm.noF, er⟩) (lcs (fkl s).1 (fkl s).2 ⟨#[]⟩ x n r d wire s (Km.gotG s g false)) e w' := by
  have hlt := h.lt
  have HM : Hid (LRow w p (lcs 2 l row x n r d wire s g)) := h
  have HG : Hid (¬ 0 = p) := tab_ne hT h
  have HT : Hid (Tab w) := hT
  have HD : Hid (∀ w, Tab w → Calls Tryd.prog 70 #[.string (row ++ ⟨#[c]⟩ ++ ⟨#[49, 49, 49, 49, 49, 49, 49, 49, 49]⟩)] w fun e w' => e = .returned (.tuple #[.agg #[.bool X, .int .u32 (N : Int), .bool R, .string D], .int .i64 (lg : Int), .int .i64 (er : Int)]) ∧ Below w.heap.size w w') := hD
  have c0 : w.cell? ⟨p, 0, none⟩ = some (.int .i64 2) := h.c 0 _ rfl
  have f0 : w.frozen? ⟨p, 0, none⟩ = false := h.f 0
  have c1 : w.cell? ⟨p, 1, none⟩ = some (.int .i64 l) := h.c 1 _ rfl
  have f1 : w.frozen? ⟨p, 1, none⟩ = false := h.f 1
  have c2 : w.cell? ⟨p, 2, none⟩ = some (.string row) := h.c 2 _ rfl
  have f2 : w.frozen? ⟨p, 2, none⟩ = false := h.f 2
  have a0 : ∀ o, (w.alloc o).cell? ⟨p, 0, none⟩ = some (.int .i64 2) := fun o => (h.alloc o).c 0 _ rfl
  have b0 : ∀ o, (w.alloc o).frozen? ⟨p, 0, none⟩ = false := fun o => (h.alloc o).f 0
  have a1 : ∀ o, (w.alloc o).cell? ⟨p, 1, none⟩ = some (.int .i64 l) := fun o => (h.alloc o).c 1 _ rfl
  have b1 : ∀ o, (w.alloc o).frozen? ⟨p, 1, none⟩ = false := fun o => (h.alloc o).f 1
  have a2 : ∀ o, (w.alloc o).cell? ⟨p, 2, none⟩ = some (.string row) := fun o => (h.alloc o).c 2 _ rfl
  have b2 : ∀ o, (w.alloc o).frozen? ⟨p, 2, none⟩ = false := fun o => (h.alloc o).f 2
  have hz : (row ++ ⟨#[c]⟩ : ByteArray).size = row.size + 1 := by rw [ByteArray.size_append]; rfl
  have he2 : ((er : Int) == 0) = false := by simpa using he
  have HS : Hid (∀ w, Calls Tryd.prog 71 #[.agg #[.int .i64 s, .int .i64 g], .bool false] w fun e w' => e = .returned (.agg #[.int .i64 s, .int .i64 (Km.gotG s g false)]) ∧ Below w.heap.size w w') := fun w => kGot_any s g false w (isC_wf hc).1 (isC_wf hc).2
  have hc2 : Hid (Km.isC s (Km.gotG s g false) = true) := Mm.isC_got false hc
  generalize Km.gotG s g false = G' at *
  clear h hD hT
  go_enter Tryd.func52, Tryd.ntmps52
  go_wp2_with fail
  have HM1 : Hid (LRow (w.setCell ⟨p, 2, none⟩ (.string (row ++ ⟨#[c]⟩))) p (lcs 2 l (row ++ ⟨#[c]⟩) x n r d wire s g)) := HM.out.set 2 _
  have HK1 : Hid (Kp p w (w.setCell ⟨p, 2, none⟩ (.string (row ++ ⟨#[c]⟩)))) := Kp.set1 (Kept.refl _ w)
  refine (HD.out _ (HT.out.kp HG.out HK1.out)).mono ?_
  rintro e w2 ⟨rfl, hb⟩
  have hm := HM1.out.on hb
  have HM2 : Hid (LRow w2 p (lcs 2 l (row ++ ⟨#[c]⟩) x n r d wire s g)) := hm
  have HK2 : Hid (Kp p w w2) := HK1.out.join hb
  clear c0 c1 c2 f0 f1 f2 a0 a1 a2 b0 b1 b2 HM HM1 HK1 hb HT HD HG
  generalize hrow : row ++ ⟨#[c]⟩ = row2 at *
  have HW : Hid (row ++ ⟨#[c]⟩ = row2) := hrow
  clear hrow
  have hp2 : p < w2.heap.size := hm.lt
  have hpw : ¬ p = w2.heap.size := Nat.ne_of_lt hp2
  have hwp : ¬ w2.heap.size = p := fun e => hpw e.symm
  have c0 : w2.cell? ⟨p, 0, none⟩ = some (.int .i64 2) := hm.c 0 _ rfl
  have f0 : w2.frozen? ⟨p, 0, none⟩ = false := hm.f 0
  have c1 : w2.cell? ⟨p, 1, none⟩ = some (.int .i64 l) := hm.c 1 _ rfl
  have f1 : w2.frozen? ⟨p, 1, none⟩ = false := hm.f 1
  have c2 : w2.cell? ⟨p, 2, none⟩ = some (.string row2) := hm.c 2 _ rfl
  have f2 : w2.frozen? ⟨p, 2, none⟩ = false := hm.f 2
  have c8 : w2.cell? ⟨p, 8, none⟩ = some (.int .i64 s) := hm.c 8 _ rfl
  have f8 : w2.frozen? ⟨p, 8, none⟩ = false := hm.f 8
  have c9 : w2.cell? ⟨p, 9, none⟩ = some (.int .i64 g) := hm.c 9 _ rfl
  have f9 : w2.frozen? ⟨p, 9, none⟩ = false := hm.f 9
  have a0 : ∀ o, (w2.alloc o).cell? ⟨p, 0, none⟩ = some (.int .i64 2) := fun o => (hm.alloc o).c 0 _ rfl
  have b0 : ∀ o, (w2.alloc o).frozen? ⟨p, 0, none⟩ = false := fun o => (hm.alloc o).f 0
  have a1 : ∀ o, (w2.alloc o).cell? ⟨p, 1, none⟩ = some (.int .i64 l) := fun o => (hm.alloc o).c 1 _ rfl
  have b1 : ∀ o, (w2.alloc o).frozen? ⟨p, 1, none⟩ = false := fun o => (hm.alloc o).f 1
  have a2 : ∀ o, (w2.alloc o).cell? ⟨p, 2, none⟩ = some (.string row2) := fun o => (hm.alloc o).c 2 _ rfl
  have b2 : ∀ o, (w2.alloc o).frozen? ⟨p, 2, none⟩ = false := fun o => (hm.alloc o).f 2
  have a8 : ∀ o, (w2.alloc o).cell? ⟨p, 8, none⟩ = some (.int .i64 s) := fun o => (hm.alloc o).c 8 _ rfl
  have b8 : ∀ o, (w2.alloc o).frozen? ⟨p, 8, none⟩ = false := fun o => (hm.alloc o).f 8
  have a9 : ∀ o, (w2.alloc o).cell? ⟨p, 9, none⟩ = some (.int .i64 g) := fun o => (hm.alloc o).c 9 _ rfl
  have b9 : ∀ o, (w2.alloc o).frozen? ⟨p, 9, none⟩ = false := fun o => (hm.alloc o).f 9
  clear hm
  go_wp2_with fail
  refine (HS.out _).mono ?_
  rintro e w3 ⟨rfl, hb⟩
  have hm : LRow w3 p (lcs 2 l row2 x n r d wire s g) := LRow.on (HM2.out.alloc _) hb
  have HM3 : Hid (LRow w3 p (lcs 2 l row2 x n r d wire s g)) := hm
  have HK3 : Hid (Kp p w w3) := Kp.join (Kp.alloc HK2.out _) hb
  clear c0 c1 c2 c8 c9 f0 f1 f2 f8 f9 a0 a1 a2 a8 a9 b0 b1 b2 b8 b9
  have c8 : w3.cell? ⟨p, 8, none⟩ = some (.int .i64 s) := hm.c 8 _ rfl
  have f8 : w3.frozen? ⟨p, 8, none⟩ = false := hm.f 8
  have c9 : w3.cell? ⟨p, 9, none⟩ = some (.int .i64 g) := hm.c 9 _ rfl
  have f9 : w3.frozen? ⟨p, 9, none⟩ = false := hm.f 9
  clear hm hb HS HM2 HK2
  go_wp2_with fail
  refine (lfault_any _ p 2 l row2 x n r d wire s G' ⟨5, Cm.noF, er⟩ ⟨#[]⟩ rfl hc2.out ((HM3.out.set 8 _).set 9 _)).mono ?_
  rintro e w4 hR
  have HR : Hid (Told w p (fev s ⟨5, Cm.noF, er⟩) (lcs (fkl s).1 (fkl s).2 ⟨#[]⟩ x n r d wire s G') e w4) := Told.from (Kp.set1 (Kp.set1 HK3.out)) hR
  obtain ⟨sl, cap, rfl, hE, hk, hm⟩ := hR
  clear hE hk hm
  go_wp2
  go_ret
  exact HR.out
set_option maxRecDepth 100000 in
set_option maxHeartbeats 4000000 in
theorem lhear_got (w : World) (p : Nat) (l : Int) (row : ByteArray) (x : Bool) (n : Int) (r : Bool) (d wire : ByteArray) (s g : Int) (c : UInt8) (X : Bool) (N : Nat) (R : Bool) (D : ByteArray) (lg er : Nat) (hl : (l == 1) = false) (hr : row.size ≤ 1000) (hlg : lg ≤ 2000) (her : er ≤ 1000) (hT : Tab w) (he : er = 0) (hle : lg = row.size + 2) (hc : Km.isC s g = true)
    (hD : ∀ w, Tab w → Calls Tryd.prog 70 #[.string (row ++ ⟨#[c]⟩ ++ ⟨#[49, 49, 49, 49, 49, 49, 49, 49, 49]⟩)] w fun e w' => e = .returned (.tuple #[.agg #[.bool X, .int .u32 (N : Int), .bool R, .string D], .int .i64 (lg : Int), .int .i64 (er : Int)]) ∧ Below w.heap.size w w') (h : LRow w p (lcs 2 l row x n r d wire s g)) :
    Calls Tryd.prog 52 #[bptr p, .string ⟨#[c]⟩] w fun e w' => Told w p ([⟨2, (X, N, R, D.data.toList), 0⟩]) (lcs 2 1 (row ++ ⟨#[c]⟩) x n r d wire s (Km.gotG s g true)) e w' := by
  have hlt := h.lt
  have HM : Hid (LRow w p (lcs 2 l row x n r d wire s g)) := h
  have HG : Hid (¬ 0 = p) := tab_ne hT h
  have HT : Hid (Tab w) := hT
  have HD : Hid (∀ w, Tab w → Calls Tryd.prog 70 #[.string (row ++ ⟨#[c]⟩ ++ ⟨#[49, 49, 49, 49, 49, 49, 49, 49, 49]⟩)] w fun e w' => e = .returned (.tuple #[.agg #[.bool X, .int .u32 (N : Int), .bool R, .string D], .int .i64 (lg : Int), .int .i64 (er : Int)]) ∧ Below w.heap.size w w') := hD
  have c0 : w.cell? ⟨p, 0, none⟩ = some (.int .i64 2) := h.c 0 _ rfl
  have f0 : w.frozen? ⟨p, 0, none⟩ = false := h.f 0
  have c1 : w.cell? ⟨p, 1, none⟩ = some (.int .i64 l) := h.c 1 _ rfl
  have f1 : w.frozen? ⟨p, 1, none⟩ = false := h.f 1
  have c2 : w.cell? ⟨p, 2, none⟩ = some (.string row) := h.c 2 _ rfl
  have f2 : w.frozen? ⟨p, 2, none⟩ = false := h.f 2
  have a0 : ∀ o, (w.alloc o).cell? ⟨p, 0, none⟩ = some (.int .i64 2) := fun o => (h.alloc o).c 0 _ rfl
  have b0 : ∀ o, (w.alloc o).frozen? ⟨p, 0, none⟩ = false := fun o => (h.alloc o).f 0
  have a1 : ∀ o, (w.alloc o).cell? ⟨p, 1, none⟩ = some (.int .i64 l) := fun o => (h.alloc o).c 1 _ rfl
  have b1 : ∀ o, (w.alloc o).frozen? ⟨p, 1, none⟩ = false := fun o => (h.alloc o).f 1
  have a2 : ∀ o, (w.alloc o).cell? ⟨p, 2, none⟩ = some (.string row) := fun o => (h.alloc o).c 2 _ rfl
  have b2 : ∀ o, (w.alloc o).frozen? ⟨p, 2, none⟩ = false := fun o => (h.alloc o).f 2
  have hz : (row ++ ⟨#[c]⟩ : ByteArray).size = row.size + 1 := by rw [ByteArray.size_append]; rfl
  subst he
  have hne2 : ((lg : Int) - ((row.size : Int) + 1) == 1) = true := by simp; omega
  have hone : Hid (((row.size : Int) + 2 - ((row.size : Int) + 1)) = 1) := (by show _ = _; omega)
  have HS : Hid (∀ w, Calls Tryd.prog 71 #[.agg #[.int .i64 s, .int .i64 g], .bool true] w fun e w' => e = .returned (.agg #[.int .i64 s, .int .i64 (Km.gotG s g true)]) ∧ Below w.heap.size w w') := fun w => kGot_any s g true w (isC_wf hc).1 (isC_wf hc).2
  generalize Km.gotG s g true = G' at *
  clear h hD hT
  go_enter Tryd.func52, Tryd.ntmps52
  go_wp2_with fail
  have HM1 : Hid (LRow (w.setCell ⟨p, 2, none⟩ (.string (row ++ ⟨#[c]⟩))) p (lcs 2 l (row ++ ⟨#[c]⟩) x n r d wire s g)) := HM.out.set 2 _
  have HK1 : Hid (Kp p w (w.setCell ⟨p, 2, none⟩ (.string (row ++ ⟨#[c]⟩)))) := Kp.set1 (Kept.refl _ w)
  refine (HD.out _ (HT.out.kp HG.out HK1.out)).mono ?_
  rintro e w2 ⟨rfl, hb⟩
  have hm := HM1.out.on hb
  have HM2 : Hid (LRow w2 p (lcs 2 l (row ++ ⟨#[c]⟩) x n r d wire s g)) := hm
  have HK2 : Hid (Kp p w w2) := HK1.out.join hb
  clear c0 c1 c2 f0 f1 f2 a0 a1 a2 b0 b1 b2 HM HM1 HK1 hb HT HD HG
  generalize hrow : row ++ ⟨#[c]⟩ = row2 at *
  have HW : Hid (row ++ ⟨#[c]⟩ = row2) := hrow
  clear hrow
  have hp2 : p < w2.heap.size := hm.lt
  have hpw : ¬ p = w2.heap.size := Nat.ne_of_lt hp2
  have hwp : ¬ w2.heap.size = p := fun e => hpw e.symm
  have c0 : w2.cell? ⟨p, 0, none⟩ = some (.int .i64 2) := hm.c 0 _ rfl
  have f0 : w2.frozen? ⟨p, 0, none⟩ = false := hm.f 0
  have c1 : w2.cell? ⟨p, 1, none⟩ = some (.int .i64 l) := hm.c 1 _ rfl
  have f1 : w2.frozen? ⟨p, 1, none⟩ = false := hm.f 1
  have c2 : w2.cell? ⟨p, 2, none⟩ = some (.string row2) := hm.c 2 _ rfl
  have f2 : w2.frozen? ⟨p, 2, none⟩ = false := hm.f 2
  have c8 : w2.cell? ⟨p, 8, none⟩ = some (.int .i64 s) := hm.c 8 _ rfl
  have f8 : w2.frozen? ⟨p, 8, none⟩ = false := hm.f 8
  have c9 : w2.cell? ⟨p, 9, none⟩ = some (.int .i64 g) := hm.c 9 _ rfl
  have f9 : w2.frozen? ⟨p, 9, none⟩ = false := hm.f 9
  have a0 : ∀ o, (w2.alloc o).cell? ⟨p, 0, none⟩ = some (.int .i64 2) := fun o => (hm.alloc o).c 0 _ rfl
  have b0 : ∀ o, (w2.alloc o).frozen? ⟨p, 0, none⟩ = false := fun o => (hm.alloc o).f 0
  have a1 : ∀ o, (w2.alloc o).cell? ⟨p, 1, none⟩ = some (.int .i64 l) := fun o => (hm.alloc o).c 1 _ rfl
  have b1 : ∀ o, (w2.alloc o).frozen? ⟨p, 1, none⟩ = false := fun o => (hm.alloc o).f 1
  have a2 : ∀ o, (w2.alloc o).cell? ⟨p, 2, none⟩ = some (.string row2) := fun o => (hm.alloc o).c 2 _ rfl
  have b2 : ∀ o, (w2.alloc o).frozen? ⟨p, 2, none⟩ = false := fun o => (hm.alloc o).f 2
  have a8 : ∀ o, (w2.alloc o).cell? ⟨p, 8, none⟩ = some (.int .i64 s) := fun o => (hm.alloc o).c 8 _ rfl
  have b8 : ∀ o, (w2.alloc o).frozen? ⟨p, 8, none⟩ = false := fun o => (hm.alloc o).f 8
  have a9 : ∀ o, (w2.alloc o).cell? ⟨p, 9, none⟩ = some (.int .i64 g) := fun o => (hm.alloc o).c 9 _ rfl
  have b9 : ∀ o, (w2.alloc o).frozen? ⟨p, 9, none⟩ = false := fun o => (hm.alloc o).f 9
  clear hm
  go_wp2_with fail
  refine (HS.out _).mono ?_
  rintro e w3 ⟨rfl, hb⟩
  have hm : LRow w3 p (lcs 2 1 row2 x n r d wire s g) := by
    have h1 := LRow.on ((HM2.out.set 1 (.int .i64 1)).alloc (.cells #[.bool X, .int .u32 (N : Int), .bool R, .string D] 26)) (by have h := hb; rw [hone.out] at h; exact h)
    exact h1
  have HM3 : Hid (LRow w3 p (lcs 2 1 row2 x n r d wire s g)) := hm
  have HK3 : Hid (Kp p w w3) := Kp.join (Kp.alloc (Kp.set1 HK2.out) _) hb
  have LF : Hid (Lies w3 w2.heap.size X N R D) := Lies.on (alloc_at (by simp)) hb
  have L0 := LF.out.c0
  have L1 := LF.out.c1
  have L2 := LF.out.c2
  have L3 := LF.out.c3
  clear c0 c1 c2 c8 c9 f0 f1 f2 f8 f9 a0 a1 a2 a8 a9 b0 b1 b2 b8 b9
  have c8 : w3.cell? ⟨p, 8, none⟩ = some (.int .i64 s) := hm.c 8 _ rfl
  have f8 : w3.frozen? ⟨p, 8, none⟩ = false := hm.f 8
  have c9 : w3.cell? ⟨p, 9, none⟩ = some (.int .i64 g) := hm.c 9 _ rfl
  have f9 : w3.frozen? ⟨p, 9, none⟩ = false := hm.f 9
  clear hm hb HS HM2 HK2
  go_wp2
  go_ret
  rw [HW.out]
  refine ⟨_, _, rfl, EvAt.one (v := ⟨2, (X, N, R, D.data.toList), 0⟩) ?_ HK3.out.size, Kp.alloc (Kp.set1 (Kp.set1 HK3.out)) _, ((HM3.out.set 8 _).set 9 _).alloc _⟩
  exact alloc_at (by simp)
end Go.Proofs.YtoohmpkhljfpbaaDoor
