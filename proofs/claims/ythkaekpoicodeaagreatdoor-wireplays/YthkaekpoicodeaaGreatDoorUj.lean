/- Package mac, over the landed code: Ask, Cancel, Copy, Drive. -/
import Derived.Test.YthkaekpoicodeaaGreatDoorE1
import Derived.Test.YthkaekpoicodeaaGreatDoorZ5
import Derived.Test.YthkaekpoicodeaaGreatDoorU6
import Derived.Test.YthkaekpoicodeaaGreatDoorU7
import Derived.Test.YthkaekpoicodeaaGreatDoorYd
namespace Go.Proofs.YthkaekpoicodeaaGreatDoor
open Go.RowKit
set_option linter.unusedVariables false
theorem drewB {w w' : World} (h : Below w.drew.heap.size w.drew w') : Below w.heap.size w w' := ((Below.refl w.heap.size w).drew).trans h
set_option maxRecDepth 100000 in
set_option maxHeartbeats 2000000 in
theorem lask_off (w : World) (p : Nat) (l : Int) (row : ByteArray) (x : Bool) (n : Int) (r : Bool) (d wire : ByteArray) (s g : Int) (X : Bool) (N : Nat) (R : Bool) (D : ByteArray) (h : LRow w p (lcs 6 l row x n r d wire s g)) :
    Calls Tryz.prog 25 #[bptr p, .agg #[.bool X, .int .u32 (N : Int), .bool R, .string D]] w fun e w' => e = .returned (.int .i64 73) ∧ LRow w' p (lcs 6 l row x n r d wire s g) ∧ Kp p w w' := by
  have HM : Hid (LRow w p (lcs 6 l row x n r d wire s g)) := h
  have hlt := h.lt
  have c0 : w.cell? ⟨p, 0, none⟩ = some (.int .i64 6) := h.c 0 _ rfl
  have f0 : w.frozen? ⟨p, 0, none⟩ = false := h.f 0
  clear h
  go_enter Tryz.func25, Tryz.ntmps25
  go_wp2
  go_ret
  exact ⟨rfl, HM.out.alloc _, Kp.alloc (Kept.refl _ _) _⟩
set_option maxRecDepth 100000 in
set_option maxHeartbeats 2000000 in
theorem lask_form (w : World) (p : Nat) (k l : Int) (row : ByteArray) (x : Bool) (n : Int) (r : Bool) (d wire : ByteArray) (s g : Int) (X : Bool) (N : Nat) (R : Bool) (D : ByteArray) (hk : (k == 6) = false) (hF : Fm.isF X N R D.data.toList = false) (hT : Tab w) (h : LRow w p (lcs k l row x n r d wire s g)) :
    Calls Tryz.prog 25 #[bptr p, .agg #[.bool X, .int .u32 (N : Int), .bool R, .string D]] w fun e w' => e = .returned (.int .i64 12) ∧ LRow w' p (lcs k l row x n r d wire s g) ∧ Kp p w w' := by
  have HM : Hid (LRow w p (lcs k l row x n r d wire s g)) := h
  have HI := fun w hT => fIs_any X N R D w hT
  rw [hF] at HI
  have HT : Hid (Tab _) := hT.alloc (.cells #[.bool X, .int .u32 (N : Int), .bool R, .string D] 35)
  have hlt := h.lt
  have c0 : w.cell? ⟨p, 0, none⟩ = some (.int .i64 k) := h.c 0 _ rfl
  have f0 : w.frozen? ⟨p, 0, none⟩ = false := h.f 0
  clear h hT hF
  go_enter Tryz.func25, Tryz.ntmps25
  go_wp2_with fail
  refine (HI _ HT.out).mono ?_
  rintro e w1 ⟨rfl, hb⟩
  have hb2 : Hid (Below w.heap.size w w1) := below_joinK ((Below.refl _ _).alloc (Nat.le_refl _) _) hb (by simp)
  clear hb HI
  go_wp2
  go_ret
  exact ⟨rfl, HM.out.on hb2.out, Kp.of hb2.out⟩
set_option maxRecDepth 100000 in
set_option maxHeartbeats 2000000 in
theorem lask_busy (w : World) (p : Nat) (k l : Int) (row : ByteArray) (x : Bool) (n : Int) (r : Bool) (d wire : ByteArray) (s g : Int) (X : Bool) (N : Nat) (R : Bool) (D : ByteArray) (hk : (k == 6) = false) (hF : Fm.isF X N R D.data.toList = true) (hw : 0 < wire.size) (hT : Tab w) (h : LRow w p (lcs k l row x n r d wire s g)) :
    Calls Tryz.prog 25 #[bptr p, .agg #[.bool X, .int .u32 (N : Int), .bool R, .string D]] w fun e w' => e = .returned (.int .i64 72) ∧ LRow w' p (lcs k l row x n r d wire s g) ∧ Kp p w w' := by
  have HM : Hid (LRow w p (lcs k l row x n r d wire s g)) := h
  have HI := fun w hT => fIs_any X N R D w hT
  rw [hF] at HI
  have HT : Hid (Tab _) := hT.alloc (.cells #[.bool X, .int .u32 (N : Int), .bool R, .string D] 35)
  have HB : Hid (∀ w, LRow w p (lcs k l row x n r d wire s g) → Calls Tryz.prog 37 #[bptr p] w fun e w' => e = .returned (.bool true) ∧ Below w.heap.size w w') := fun w h => lbusy1 w p k l row x n r d wire s g hw h
  have hlt := h.lt
  have c0 : w.cell? ⟨p, 0, none⟩ = some (.int .i64 k) := h.c 0 _ rfl
  have f0 : w.frozen? ⟨p, 0, none⟩ = false := h.f 0
  clear h hT hF hw
  go_enter Tryz.func25, Tryz.ntmps25
  go_wp2_with fail
  refine (HI _ HT.out).mono ?_
  rintro e w1 ⟨rfl, hb⟩
  have hb2 : Hid (Below w.heap.size w w1) := below_joinK ((Below.refl _ _).alloc (Nat.le_refl _) _) hb (by simp)
  clear hb HI
  go_wp2_with fail
  refine (HB.out _ (HM.out.on hb2.out)).mono ?_
  rintro e w2 ⟨rfl, hb⟩
  replace hb2 : Hid (Below w.heap.size w w2) := below_joinK hb2.out hb hb2.out.size
  clear hb HB
  go_wp2
  go_ret
  exact ⟨rfl, HM.out.on hb2.out, Kp.of hb2.out⟩
set_option maxRecDepth 100000 in
set_option maxHeartbeats 4000000 in
theorem lask_ok (w : World) (p : Nat) (k l : Int) (row : ByteArray) (x : Bool) (n : Int) (r : Bool) (d : ByteArray) (s g : Int) (X : Bool) (N : Nat) (R : Bool) (D : ByteArray) (hk : (k == 6) = false) (hF : Fm.isF X N R D.data.toList = true) (hN : N < 4294967296) (hT : Tab w) (h : LRow w p (lcs k l row x n r d ⟨#[]⟩ s g)) :
    Calls Tryz.prog 25 #[bptr p, .agg #[.bool X, .int .u32 (N : Int), .bool R, .string D]] w fun e w' => e = .returned (.int .i64 0) ∧ LRow w' p (lcs k l row X N R D ⟨(Bm.row (Cm.enc X N R D.data.toList)).toArray⟩ s g) ∧ Kp p w w' := by
  have HM : Hid (LRow w p (lcs k l row x n r d ⟨#[]⟩ s g)) := h
  have HI := fun w hT => fIs_any X N R D w hT
  rw [hF] at HI
  have HE : Hid (∀ w, Tab w → Calls Tryz.prog 38 #[.agg #[.bool X, .int .u32 (N : Int), .bool R, .string D]] w fun e w' => e = .returned (.string ⟨(Bm.row (Cm.enc X N R D.data.toList)).toArray⟩) ∧ Below w.heap.size w w') := fun w hT => cEnc_any X N R D w hT hN
  generalize ByteArray.mk (Bm.row (Cm.enc X N R D.data.toList)).toArray = T at *
  have HT : Hid (Tab _) := hT.alloc (.cells #[.bool X, .int .u32 (N : Int), .bool R, .string D] 35)
  have HB : Hid (∀ w, LRow w p (lcs k l row x n r d ⟨#[]⟩ s g) → Calls Tryz.prog 37 #[bptr p] w fun e w' => e = .returned (.bool false) ∧ Below w.heap.size w w') := fun w h => lbusy0 w p k l row x n r d s g h
  have hlt := h.lt
  have c0 : w.cell? ⟨p, 0, none⟩ = some (.int .i64 k) := h.c 0 _ rfl
  have f0 : w.frozen? ⟨p, 0, none⟩ = false := h.f 0
  clear h hT hF hN
  go_enter Tryz.func25, Tryz.ntmps25
  go_wp2_with fail
  refine (HI _ HT.out).mono ?_
  rintro e w1 ⟨rfl, hb⟩
  have hb2 : Hid (Below w.heap.size w w1) := below_joinK ((Below.refl _ _).alloc (Nat.le_refl _) _) hb (by simp)
  replace HT : Hid (Tab w1) := HT.out.below hb
  have LF : Hid (Lies w1 w.heap.size X N R D) := (Lies.new w _ _ _ _).on hb
  clear hb HI
  go_wp2_with fail
  refine (HB.out _ (HM.out.on hb2.out)).mono ?_
  rintro e w2 ⟨rfl, hb⟩
  replace hb2 : Hid (Below w.heap.size w w2) := below_joinK hb2.out hb hb2.out.size
  replace HT : Hid (Tab w2) := HT.out.below hb
  replace LF : Hid (Lies w2 w.heap.size X N R D) := LF.out.on hb
  clear hb HB
  have HM2 : Hid (LRow w2 p (lcs k l row x n r d ⟨#[]⟩ s g)) := HM.out.on hb2.out
  clear HM c0 f0
  go_wp2_with fail
  have hwp : ¬ w.heap.size = p := by omega
  have hpw : ¬ p = w.heap.size := by omega
  have L0 := LF.out.c0
  have L1 := LF.out.c1
  have L2 := LF.out.c2
  have L3 := LF.out.c3
  have hm := HM2.out
  have cm3 : w2.cell? ⟨p, 3, none⟩ = some (.bool x) := hm.c 3 _ rfl
  have fm3 : w2.frozen? ⟨p, 3, none⟩ = false := hm.f 3
  have cm4 : w2.cell? ⟨p, 4, none⟩ = some (.int .u32 n) := hm.c 4 _ rfl
  have fm4 : w2.frozen? ⟨p, 4, none⟩ = false := hm.f 4
  have cm5 : w2.cell? ⟨p, 5, none⟩ = some (.bool r) := hm.c 5 _ rfl
  have fm5 : w2.frozen? ⟨p, 5, none⟩ = false := hm.f 5
  have cm6 : w2.cell? ⟨p, 6, none⟩ = some (.string d) := hm.c 6 _ rfl
  have fm6 : w2.frozen? ⟨p, 6, none⟩ = false := hm.f 6
  have cm7 : w2.cell? ⟨p, 7, none⟩ = some (.string ⟨#[]⟩) := hm.c 7 _ rfl
  have fm7 : w2.frozen? ⟨p, 7, none⟩ = false := hm.f 7
  clear hm
  go_region_with (go_at_call 38; refine (HE.out _ (by exact HT.out)).mono ?_; rintro e w3 ⟨rfl, hb3⟩; have hb4 : Below w2.heap.size w2 w3 := drewB hb3; replace LF : Hid (Lies w3 w.heap.size X N R D) := LF.out.on hb4; replace HM2 : Hid (LRow w3 p (lcs k l row x n r d ⟨#[]⟩ s g)) := HM2.out.on hb4; replace hb2 : Hid (Below w.heap.size w w3) := below_joinK hb2.out hb4 hb2.out.size; clear hb3 hb4 L0 L1 L2 L3 cm3 cm4 cm5 cm6 cm7 fm3 fm4 fm5 fm6 fm7; have L0 := LF.out.c0; have L1 := LF.out.c1; have L2 := LF.out.c2; have L3 := LF.out.c3; have hm := HM2.out; have cm3 := hm.c 3 _ rfl; have cm4 := hm.c 4 _ rfl; have cm5 := hm.c 5 _ rfl; have cm6 := hm.c 6 _ rfl; have cm7 := hm.c 7 _ rfl; have fm3 := hm.f 3; have fm4 := hm.f 4; have fm5 := hm.f 5; have fm6 := hm.f 6; have fm7 := hm.f 7; clear hm)
  all_goals
    go_wp2
    go_ret
    exact ⟨rfl, ((((HM2.out.set 3 _).set 4 _).set 5 _).set 6 _).set 7 _, Kp.set1 (Kp.set1 (Kp.set1 (Kp.set1 (Kp.set1 (Kp.of hb2.out)))))⟩
set_option maxRecDepth 100000 in
set_option maxHeartbeats 2000000 in
theorem lcopy_any (w : World) (p : Nat) (k l : Int) (row : ByteArray) (x : Bool) (n : Int) (r : Bool) (d wire : ByteArray) (s g : Int) (h : LRow w p (lcs k l row x n r d wire s g)) :
    Calls Tryz.prog 33 #[bptr p] w fun e w' => e = .returned (bptr w.heap.size) ∧ LRow w' w.heap.size (lcs k l row x n r d wire s g) ∧ Below w.heap.size w w' := by
  have hlt := h.lt
  have HM : Hid (LRow w p (lcs k l row x n r d wire s g)) := h
  have a0 : ∀ o, (w.alloc o).cell? ⟨p, 0, none⟩ = some (.int .i64 k) := fun o => (h.alloc o).c 0 _ rfl
  have b0 : ∀ o, (w.alloc o).frozen? ⟨p, 0, none⟩ = false := fun o => (h.alloc o).f 0
  have a1 : ∀ o, (w.alloc o).cell? ⟨p, 1, none⟩ = some (.int .i64 l) := fun o => (h.alloc o).c 1 _ rfl
  have b1 : ∀ o, (w.alloc o).frozen? ⟨p, 1, none⟩ = false := fun o => (h.alloc o).f 1
  have a2 : ∀ o, (w.alloc o).cell? ⟨p, 2, none⟩ = some (.string row) := fun o => (h.alloc o).c 2 _ rfl
  have b2 : ∀ o, (w.alloc o).frozen? ⟨p, 2, none⟩ = false := fun o => (h.alloc o).f 2
  have a3 : ∀ o, (w.alloc o).cell? ⟨p, 3, none⟩ = some (.bool x) := fun o => (h.alloc o).c 3 _ rfl
  have b3 : ∀ o, (w.alloc o).frozen? ⟨p, 3, none⟩ = false := fun o => (h.alloc o).f 3
  have a4 : ∀ o, (w.alloc o).cell? ⟨p, 4, none⟩ = some (.int .u32 n) := fun o => (h.alloc o).c 4 _ rfl
  have b4 : ∀ o, (w.alloc o).frozen? ⟨p, 4, none⟩ = false := fun o => (h.alloc o).f 4
  have a5 : ∀ o, (w.alloc o).cell? ⟨p, 5, none⟩ = some (.bool r) := fun o => (h.alloc o).c 5 _ rfl
  have b5 : ∀ o, (w.alloc o).frozen? ⟨p, 5, none⟩ = false := fun o => (h.alloc o).f 5
  have a6 : ∀ o, (w.alloc o).cell? ⟨p, 6, none⟩ = some (.string d) := fun o => (h.alloc o).c 6 _ rfl
  have b6 : ∀ o, (w.alloc o).frozen? ⟨p, 6, none⟩ = false := fun o => (h.alloc o).f 6
  have a7 : ∀ o, (w.alloc o).cell? ⟨p, 7, none⟩ = some (.string wire) := fun o => (h.alloc o).c 7 _ rfl
  have b7 : ∀ o, (w.alloc o).frozen? ⟨p, 7, none⟩ = false := fun o => (h.alloc o).f 7
  have a8 : ∀ o, (w.alloc o).cell? ⟨p, 8, none⟩ = some (.int .i64 s) := fun o => (h.alloc o).c 8 _ rfl
  have b8 : ∀ o, (w.alloc o).frozen? ⟨p, 8, none⟩ = false := fun o => (h.alloc o).f 8
  have a9 : ∀ o, (w.alloc o).cell? ⟨p, 9, none⟩ = some (.int .i64 g) := fun o => (h.alloc o).c 9 _ rfl
  have b9 : ∀ o, (w.alloc o).frozen? ⟨p, 9, none⟩ = false := fun o => (h.alloc o).f 9
  have c0 : w.cell? ⟨p, 0, none⟩ = some (.int .i64 k) := h.c 0 _ rfl
  have f0 : w.frozen? ⟨p, 0, none⟩ = false := h.f 0
  have c1 : w.cell? ⟨p, 1, none⟩ = some (.int .i64 l) := h.c 1 _ rfl
  have f1 : w.frozen? ⟨p, 1, none⟩ = false := h.f 1
  have c2 : w.cell? ⟨p, 2, none⟩ = some (.string row) := h.c 2 _ rfl
  have f2 : w.frozen? ⟨p, 2, none⟩ = false := h.f 2
  have c3 : w.cell? ⟨p, 3, none⟩ = some (.bool x) := h.c 3 _ rfl
  have f3 : w.frozen? ⟨p, 3, none⟩ = false := h.f 3
  have c4 : w.cell? ⟨p, 4, none⟩ = some (.int .u32 n) := h.c 4 _ rfl
  have f4 : w.frozen? ⟨p, 4, none⟩ = false := h.f 4
  have c5 : w.cell? ⟨p, 5, none⟩ = some (.bool r) := h.c 5 _ rfl
  have f5 : w.frozen? ⟨p, 5, none⟩ = false := h.f 5
  have c6 : w.cell? ⟨p, 6, none⟩ = some (.string d) := h.c 6 _ rfl
  have f6 : w.frozen? ⟨p, 6, none⟩ = false := h.f 6
  have c7 : w.cell? ⟨p, 7, none⟩ = some (.string wire) := h.c 7 _ rfl
  have f7 : w.frozen? ⟨p, 7, none⟩ = false := h.f 7
  have c8 : w.cell? ⟨p, 8, none⟩ = some (.int .i64 s) := h.c 8 _ rfl
  have f8 : w.frozen? ⟨p, 8, none⟩ = false := h.f 8
  have c9 : w.cell? ⟨p, 9, none⟩ = some (.int .i64 g) := h.c 9 _ rfl
  have f9 : w.frozen? ⟨p, 9, none⟩ = false := h.f 9
  clear h
  go_enter Tryz.func33, Tryz.ntmps33
  go_wp2
  go_ret
  exact ⟨rfl, heap_alloc_new _ _, (Below.refl _ _).alloc (Nat.le_refl _) _⟩
/-- What a node drives: a 1 (49) or a 0 (48). -/
abbrev dV (b : Bool) : Value := .int .u8 (if b then 49 else 48)
set_option maxRecDepth 100000 in
set_option maxHeartbeats 2000000 in
theorem ldrive_send (w : World) (p : Nat) (l : Int) (row : ByteArray) (x : Bool) (n : Int) (r : Bool) (d : ByteArray) (s g : Int) (out : List Bool) (i : Nat) (hi : i < out.length) (ho : out.length ≤ 200) (hr : row.size = i) (h : LRow w p (lcs 1 l row x n r d ⟨(Bm.row out).toArray⟩ s g)) :
    Calls Tryz.prog 40 #[bptr p] w fun e w' => e = .returned (dV (out.getD i true)) ∧ Below w.heap.size w w' := by
  have HN : Hid (Calls Tryz.prog 55 #[bptr p] w fun e w' => e = .returned (dV (out.getD i true)) ∧ Below w.heap.size w w') := lnext_any w p 1 l row x n r d s g out i hi ho hr h
  have c0 : w.cell? ⟨p, 0, none⟩ = some (.int .i64 1) := h.c 0 _ rfl
  have f0 : w.frozen? ⟨p, 0, none⟩ = false := h.f 0
  generalize dV (out.getD i true) = V at *
  clear h hi ho hr
  go_enter Tryz.func40, Tryz.ntmps40
  go_wp2_with fail
  refine HN.out.mono ?_
  rintro e w1 ⟨rfl, hb⟩
  have hb2 : Hid (Below w.heap.size w w1) := hb
  clear hb
  go_wp2
  go_ret
  exact ⟨rfl, hb2.out⟩
set_option maxRecDepth 100000 in
set_option maxHeartbeats 2000000 in
theorem ldrive_hear (w : World) (p : Nat) (l : Int) (row : ByteArray) (x : Bool) (n : Int) (r : Bool) (d wire : ByteArray) (s g : Int) (b : Bool) (hb : (l == 9) = b) (h : LRow w p (lcs 2 l row x n r d wire s g)) :
    Calls Tryz.prog 40 #[bptr p] w fun e w' => e = .returned (dV (!b)) ∧ Below w.heap.size w w' := by
  have hlt := h.lt
  have c0 : w.cell? ⟨p, 0, none⟩ = some (.int .i64 2) := h.c 0 _ rfl
  have f0 : w.frozen? ⟨p, 0, none⟩ = false := h.f 0
  have c1 : w.cell? ⟨p, 1, none⟩ = some (.int .i64 l) := h.c 1 _ rfl
  have f1 : w.frozen? ⟨p, 1, none⟩ = false := h.f 1
  have a0 : ∀ o, (w.alloc o).cell? ⟨p, 0, none⟩ = some (.int .i64 2) := fun o => (h.alloc o).c 0 _ rfl
  have b0 : ∀ o, (w.alloc o).frozen? ⟨p, 0, none⟩ = false := fun o => (h.alloc o).f 0
  have a1 : ∀ o, (w.alloc o).cell? ⟨p, 1, none⟩ = some (.int .i64 l) := fun o => (h.alloc o).c 1 _ rfl
  have b1 : ∀ o, (w.alloc o).frozen? ⟨p, 1, none⟩ = false := fun o => (h.alloc o).f 1
  clear h
  have hl : b = true → l = 9 := fun e => by rw [e] at hb; simpa using hb
  cases b
  · go_enter Tryz.func40, Tryz.ntmps40
    go_wp2
    go_ret
    exact ⟨rfl, Below.refl _ _⟩
  · obtain rfl := hl rfl
    go_enter Tryz.func40, Tryz.ntmps40
    go_wp2
    go_ret
    exact ⟨rfl, Below.refl _ _⟩
set_option maxRecDepth 100000 in
set_option maxHeartbeats 2000000 in
theorem ldrive_flag (w : World) (p : Nat) (l : Int) (row : ByteArray) (x : Bool) (n : Int) (r : Bool) (d wire : ByteArray) (s g : Int) (ws : (Lit.int .i64 s).wf = true) (wg : (Lit.int .i64 g).wf = true) (h : LRow w p (lcs 3 l row x n r d wire s g)) :
    Calls Tryz.prog 40 #[bptr p] w fun e w' => e = .returned (dV (Km.pasC s g)) ∧ Below w.heap.size w w' := by
  have HP : Hid (∀ w, Calls Tryz.prog 56 #[.agg #[.int .i64 s, .int .i64 g]] w fun e w' => e = .returned (.bool (Km.pasC s g)) ∧ Below w.heap.size w w') := fun w => kPas_any s g w ws wg
  generalize Km.pasC s g = b at *
  have c0 : w.cell? ⟨p, 0, none⟩ = some (.int .i64 3) := h.c 0 _ rfl
  have f0 : w.frozen? ⟨p, 0, none⟩ = false := h.f 0
  have c8 : w.cell? ⟨p, 8, none⟩ = some (.int .i64 s) := h.c 8 _ rfl
  have f8 : w.frozen? ⟨p, 8, none⟩ = false := h.f 8
  have c9 : w.cell? ⟨p, 9, none⟩ = some (.int .i64 g) := h.c 9 _ rfl
  have f9 : w.frozen? ⟨p, 9, none⟩ = false := h.f 9
  clear h ws wg
  cases b
  all_goals
    go_enter Tryz.func40, Tryz.ntmps40
    go_wp2_with fail
    refine (HP.out _).mono ?_
    rintro e w1 ⟨rfl, hb⟩
    have hb2 : Hid (Below w.heap.size w w1) := hb
    clear hb
    go_wp2
    go_ret
    exact ⟨rfl, hb2.out⟩
set_option maxRecDepth 100000 in
set_option maxHeartbeats 2000000 in
theorem ldrive_idle (w : World) (p : Nat) (l : Int) (row : ByteArray) (x : Bool) (n : Int) (r : Bool) (d wire : ByteArray) (s g : Int) (b : Bool) (hw : wire = ⟨#[]⟩ ∧ b = false ∨ 0 < wire.size ∧ b = true) (h : LRow w p (lcs 0 l row x n r d wire s g)) :
    Calls Tryz.prog 40 #[bptr p] w fun e w' => e = .returned (dV (!b)) ∧ Below w.heap.size w w' := by
  have HP : Hid (Calls Tryz.prog 37 #[bptr p] w fun e w' => e = .returned (.bool b) ∧ Below w.heap.size w w') := by
    rcases hw with ⟨rfl, rfl⟩ | ⟨hw, rfl⟩
    · exact lbusy0 w p 0 l row x n r d s g h
    · exact lbusy1 w p 0 l row x n r d wire s g hw h
  have c0 : w.cell? ⟨p, 0, none⟩ = some (.int .i64 0) := h.c 0 _ rfl
  have f0 : w.frozen? ⟨p, 0, none⟩ = false := h.f 0
  clear h hw
  cases b
  all_goals
    go_enter Tryz.func40, Tryz.ntmps40
    go_wp2_with fail
    refine HP.out.mono ?_
    rintro e w1 ⟨rfl, hb⟩
    have hb2 : Hid (Below w.heap.size w w1) := hb
    clear hb
    go_wp2
    go_ret
    exact ⟨rfl, hb2.out⟩
set_option maxRecDepth 100000 in
set_option maxHeartbeats 2000000 in
theorem ldrive_else (w : World) (p : Nat) (k l : Int) (row : ByteArray) (x : Bool) (n : Int) (r : Bool) (d wire : ByteArray) (s g : Int) (hk : k = 4 ∨ k = 5 ∨ k = 6) (h : LRow w p (lcs k l row x n r d wire s g)) :
    Calls Tryz.prog 40 #[bptr p] w fun e w' => e = .returned (dV true) ∧ Below w.heap.size w w' := by
  have c0 : w.cell? ⟨p, 0, none⟩ = some (.int .i64 k) := h.c 0 _ rfl
  have f0 : w.frozen? ⟨p, 0, none⟩ = false := h.f 0
  clear h
  rcases hk with rfl | rfl | rfl
  all_goals
    go_enter Tryz.func40, Tryz.ntmps40
    go_wp2
    go_ret
    exact ⟨rfl, Below.refl _ _⟩
end Go.Proofs.YthkaekpoicodeaaGreatDoor
/- Package mac, over the landed code: fault, fail, settle, rest. -/
namespace Go.Proofs.YthkaekpoicodeaaGreatDoor
open Go.RowKit
set_option linter.unusedVariables false
theorem isC_wf {s g : Int} (h : Km.isC s g = true) : (Lit.int .i64 s).wf = true ∧ (Lit.int .i64 g).wf = true := by
  obtain ⟨h1, h2, h3, h4⟩ := Km.isC_parts h
  have hk : IntKind.i64.min = -9223372036854775808 ∧ IntKind.i64.max = 9223372036854775807 := ⟨rfl, rfl⟩
  constructor <;> simp only [Lit.wf, hk.1, hk.2, Bool.and_eq_true, decide_eq_true_eq] <;> omega
/-- A call that tells events, of a node at p that may write its own block alone. -/
def Told (w : World) (p : Nat) (evs : List Mm.Ev) (cs : Array Value) (e : Ending) (w' : World) : Prop :=
  ∃ sl cap, e = .returned (.slice sl evs.length cap) ∧ EvAt w.heap.size w' sl cap evs ∧ Kp p w w' ∧ LRow w' p cs
theorem alloc_at {w : World} {o : Obj} {b : Nat} (hb : b = w.heap.size) : (w.alloc o).heap[b]? = some o := by subst hb; exact heap_alloc_new w o
theorem six_at {w : World} {b : Nat} {a0 a1 a2 a3 a4 a5 : Value} {t : TypeId} (h : w.heap[b]? = some (.cells #[a0, a1, a2, a3, a4, a5] t (0, 0))) :
    w.cell? ⟨b, 0, none⟩ = some a0 ∧ w.cell? ⟨b, 1, none⟩ = some a1 ∧ w.cell? ⟨b, 2, none⟩ = some a2 ∧ w.cell? ⟨b, 3, none⟩ = some a3 ∧ w.cell? ⟨b, 4, none⟩ = some a4 ∧ w.cell? ⟨b, 5, none⟩ = some a5 :=
  ⟨by rw [cell_of_row _ _ _ _ _ _ h]; rfl, by rw [cell_of_row _ _ _ _ _ _ h]; rfl, by rw [cell_of_row _ _ _ _ _ _ h]; rfl, by rw [cell_of_row _ _ _ _ _ _ h]; rfl, by rw [cell_of_row _ _ _ _ _ _ h]; rfl, by rw [cell_of_row _ _ _ _ _ _ h]; rfl⟩
set_option maxRecDepth 100000 in
set_option maxHeartbeats 2000000 in
theorem lfault0 (w : World) (p : Nat) (k l : Int) (row : ByteArray) (x : Bool) (n : Int) (r : Bool) (d wire : ByteArray) (s g : Int) (v : Mm.Ev) (D : ByteArray) (hD : D = ⟨v.f.2.2.2.toArray⟩) (ho : Km.offC s = false) (hc : Km.isC s g = true) (h : LRow w p (lcs k l row x n r d wire s g)) :
    Calls Tryz.prog 93 #[bptr p, evA v D] w fun e w' => Told w p [v] (lcs 3 6 ⟨#[]⟩ x n r d wire s g) e w' := by
  have hlt := h.lt
  have HD : Hid (D = ⟨v.f.2.2.2.toArray⟩) := hD
  have HM : Hid (LRow w p (lcs k l row x n r d wire s g)) := h
  have HO : Hid (∀ w, Calls Tryz.prog 87 #[.agg #[.int .i64 s, .int .i64 g]] w fun e w' => e = .returned (.bool false) ∧ Below w.heap.size w w') := fun w => by
    have h := kOff_any s g w (isC_wf hc).1 (isC_wf hc).2
    rw [ho] at h
    exact h
  have c0 : w.cell? ⟨p, 0, none⟩ = some (.int .i64 k) := h.c 0 _ rfl
  have f0 : w.frozen? ⟨p, 0, none⟩ = false := h.f 0
  have c1 : w.cell? ⟨p, 1, none⟩ = some (.int .i64 l) := h.c 1 _ rfl
  have f1 : w.frozen? ⟨p, 1, none⟩ = false := h.f 1
  have c2 : w.cell? ⟨p, 2, none⟩ = some (.string row) := h.c 2 _ rfl
  have f2 : w.frozen? ⟨p, 2, none⟩ = false := h.f 2
  have c8 : w.cell? ⟨p, 8, none⟩ = some (.int .i64 s) := h.c 8 _ rfl
  have f8 : w.frozen? ⟨p, 8, none⟩ = false := h.f 8
  have c9 : w.cell? ⟨p, 9, none⟩ = some (.int .i64 g) := h.c 9 _ rfl
  have f9 : w.frozen? ⟨p, 9, none⟩ = false := h.f 9
  have hpw : ¬ p = w.heap.size := Nat.ne_of_lt hlt
  clear h hD ho hc
  go_enter Tryz.func93, Tryz.ntmps93
  go_wp2_with fail
  have HM1 : Hid (LRow (((w.setCell ⟨p, 2, none⟩ (.string ⟨#[]⟩)).setCell ⟨p, 0, none⟩ (.int .i64 3)).setCell ⟨p, 1, none⟩ (.int .i64 6)) p (lcs 3 6 ⟨#[]⟩ x n r d wire s g)) := ((HM.out.set 2 _).set 0 _).set 1 _
  have HK1 : Hid (Kp p w (((w.setCell ⟨p, 2, none⟩ (.string ⟨#[]⟩)).setCell ⟨p, 0, none⟩ (.int .i64 3)).setCell ⟨p, 1, none⟩ (.int .i64 6))) := Kp.set1 (Kp.set1 (Kp.set1 (Kept.refl _ w)))
  have hsz : Hid (((((w.setCell ⟨p, 2, none⟩ (.string ⟨#[]⟩)).setCell ⟨p, 0, none⟩ (.int .i64 3)).setCell ⟨p, 1, none⟩ (.int .i64 6)).heap.size) = w.heap.size) := (by show _ = _; simp)
  clear HM c0 c1 c2 c8 c9 f0 f1 f2 f8 f9
  generalize ((w.setCell ⟨p, 2, none⟩ (.string ⟨#[]⟩)).setCell ⟨p, 0, none⟩ (.int .i64 3)).setCell ⟨p, 1, none⟩ (.int .i64 6) = w0 at *
  refine (HO.out _).mono ?_
  rintro e w1 ⟨rfl, hb1⟩
  have HM2 : Hid (LRow w1 p (lcs 3 6 ⟨#[]⟩ x n r d wire s g)) := (HM1.out.alloc _).on hb1
  have HK2 : Hid (Kp p w w1) := (Kp.alloc HK1.out _).join hb1
  have hE : w1.heap[w.heap.size]? = some (.cells #[.int .i64 (v.k : Int), .bool v.f.1, .int .u32 (v.f.2.1 : Int), .bool v.f.2.2.1, .string D, .int .i64 (v.e : Int)] 60 (0, 0)) := by
    have e0 := heap_alloc_new w0 (.cells #[.int .i64 (v.k : Int), .bool v.f.1, .int .u32 (v.f.2.1 : Int), .bool v.f.2.2.1, .string D, .int .i64 (v.e : Int)] 60)
    rw [hsz.out] at e0
    rw [hb1.block w.heap.size (by rw [← hsz.out]; simp)]
    exact e0
  have HE : Hid (w1.heap[w.heap.size]? = some (.cells #[.int .i64 (v.k : Int), .bool v.f.1, .int .u32 (v.f.2.1 : Int), .bool v.f.2.2.1, .string D, .int .i64 (v.e : Int)] 60 (0, 0))) := hE
  have hs1 : w.heap.size < w1.heap.size := (Array.getElem?_eq_some_iff.1 hE).1
  obtain ⟨g0, g1, g2, g3, g4, g5⟩ := six_at hE
  clear hb1 HO HM1 HK1 hsz hE
  go_wp2
  go_ret
  refine ⟨_, _, rfl, EvAt.one ?_ (Nat.le_of_lt hs1), Kp.alloc HK2.out _, HM2.out.alloc _⟩
  rw [heap_alloc_new, HD.out]
  rfl
set_option maxRecDepth 100000 in
set_option maxHeartbeats 2000000 in
theorem lfault1 (w : World) (p : Nat) (k l : Int) (row : ByteArray) (x : Bool) (n : Int) (r : Bool) (d wire : ByteArray) (s g : Int) (v : Mm.Ev) (D : ByteArray) (hD : D = ⟨v.f.2.2.2.toArray⟩) (ho : Km.offC s = true) (hc : Km.isC s g = true) (h : LRow w p (lcs k l row x n r d wire s g)) :
    Calls Tryz.prog 93 #[bptr p, evA v D] w fun e w' => Told w p [v, ⟨7, Cm.noF, 0⟩] (lcs 6 0 ⟨#[]⟩ x n r d wire s g) e w' := by
  have hlt := h.lt
  have HD : Hid (D = ⟨v.f.2.2.2.toArray⟩) := hD
  have HM : Hid (LRow w p (lcs k l row x n r d wire s g)) := h
  have HO : Hid (∀ w, Calls Tryz.prog 87 #[.agg #[.int .i64 s, .int .i64 g]] w fun e w' => e = .returned (.bool true) ∧ Below w.heap.size w w') := fun w => by
    have h := kOff_any s g w (isC_wf hc).1 (isC_wf hc).2
    rw [ho] at h
    exact h
  have c0 : w.cell? ⟨p, 0, none⟩ = some (.int .i64 k) := h.c 0 _ rfl
  have f0 : w.frozen? ⟨p, 0, none⟩ = false := h.f 0
  have c1 : w.cell? ⟨p, 1, none⟩ = some (.int .i64 l) := h.c 1 _ rfl
  have f1 : w.frozen? ⟨p, 1, none⟩ = false := h.f 1
  have c2 : w.cell? ⟨p, 2, none⟩ = some (.string row) := h.c 2 _ rfl
  have f2 : w.frozen? ⟨p, 2, none⟩ = false := h.f 2
  have c8 : w.cell? ⟨p, 8, none⟩ = some (.int .i64 s) := h.c 8 _ rfl
  have f8 : w.frozen? ⟨p, 8, none⟩ = false := h.f 8
  have c9 : w.cell? ⟨p, 9, none⟩ = some (.int .i64 g) := h.c 9 _ rfl
  have f9 : w.frozen? ⟨p, 9, none⟩ = false := h.f 9
  have hpw : ¬ p = w.heap.size := Nat.ne_of_lt hlt
  clear h hD ho hc
  go_enter Tryz.func93, Tryz.ntmps93
  go_wp2_with fail
  have HM1 : Hid (LRow (((w.setCell ⟨p, 2, none⟩ (.string ⟨#[]⟩)).setCell ⟨p, 0, none⟩ (.int .i64 3)).setCell ⟨p, 1, none⟩ (.int .i64 6)) p (lcs 3 6 ⟨#[]⟩ x n r d wire s g)) := ((HM.out.set 2 _).set 0 _).set 1 _
  have HK1 : Hid (Kp p w (((w.setCell ⟨p, 2, none⟩ (.string ⟨#[]⟩)).setCell ⟨p, 0, none⟩ (.int .i64 3)).setCell ⟨p, 1, none⟩ (.int .i64 6))) := Kp.set1 (Kp.set1 (Kp.set1 (Kept.refl _ w)))
  have hsz : Hid (((((w.setCell ⟨p, 2, none⟩ (.string ⟨#[]⟩)).setCell ⟨p, 0, none⟩ (.int .i64 3)).setCell ⟨p, 1, none⟩ (.int .i64 6)).heap.size) = w.heap.size) := (by show _ = _; simp)
  clear HM c0 c1 c2 c8 c9 f0 f1 f2 f8 f9
  generalize ((w.setCell ⟨p, 2, none⟩ (.string ⟨#[]⟩)).setCell ⟨p, 0, none⟩ (.int .i64 3)).setCell ⟨p, 1, none⟩ (.int .i64 6) = w0 at *
  refine (HO.out _).mono ?_
  rintro e w1 ⟨rfl, hb1⟩
  have HM2 : Hid (LRow w1 p (lcs 3 6 ⟨#[]⟩ x n r d wire s g)) := (HM1.out.alloc _).on hb1
  have HK2 : Hid (Kp p w w1) := (Kp.alloc HK1.out _).join hb1
  have hE : w1.heap[w.heap.size]? = some (.cells #[.int .i64 (v.k : Int), .bool v.f.1, .int .u32 (v.f.2.1 : Int), .bool v.f.2.2.1, .string D, .int .i64 (v.e : Int)] 60 (0, 0)) := by
    have e0 := heap_alloc_new w0 (.cells #[.int .i64 (v.k : Int), .bool v.f.1, .int .u32 (v.f.2.1 : Int), .bool v.f.2.2.1, .string D, .int .i64 (v.e : Int)] 60)
    rw [hsz.out] at e0
    rw [hb1.block w.heap.size (by rw [← hsz.out]; simp)]
    exact e0
  have HE : Hid (w1.heap[w.heap.size]? = some (.cells #[.int .i64 (v.k : Int), .bool v.f.1, .int .u32 (v.f.2.1 : Int), .bool v.f.2.2.1, .string D, .int .i64 (v.e : Int)] 60 (0, 0))) := hE
  have hs1 : w.heap.size < w1.heap.size := (Array.getElem?_eq_some_iff.1 hE).1
  obtain ⟨g0, g1, g2, g3, g4, g5⟩ := six_at hE
  clear hb1 HO HM1 HK1 hsz hE
  have hm := HM2.out
  have cm0 : w1.cell? ⟨p, 0, none⟩ = some (.int .i64 3) := hm.c 0 _ rfl
  have fm0 : w1.frozen? ⟨p, 0, none⟩ = false := hm.f 0
  have cm1 : w1.cell? ⟨p, 1, none⟩ = some (.int .i64 6) := hm.c 1 _ rfl
  have fm1 : w1.frozen? ⟨p, 1, none⟩ = false := hm.f 1
  have hwp : ¬ w.heap.size = p := fun e => hpw e.symm
  clear hm
  go_wp2
  go_ret
  refine ⟨_, _, rfl, EvAt.two ?_ ?_, Kp.alloc (Kp.set1 (Kp.set1 HK2.out)) _, ((HM2.out.set 0 _).set 1 _).alloc _⟩
  · rw [HD.out]
    exact alloc_at (by simp)
  · omega
/-- What a fault makes of the node, and what is told. -/
def fkl (s : Int) : Int × Int := if Km.offC s then (6, 0) else (3, 6)
def fev (s : Int) (v : Mm.Ev) : List Mm.Ev := if Km.offC s then [v, ⟨7, Cm.noF, 0⟩] else [v]
theorem lfault_any (w : World) (p : Nat) (k l : Int) (row : ByteArray) (x : Bool) (n : Int) (r : Bool) (d wire : ByteArray) (s g : Int) (v : Mm.Ev) (D : ByteArray) (hD : D = ⟨v.f.2.2.2.toArray⟩) (hc : Km.isC s g = true) (h : LRow w p (lcs k l row x n r d wire s g)) :
    Calls Tryz.prog 93 #[bptr p, evA v D] w fun e w' => Told w p (fev s v) (lcs (fkl s).1 (fkl s).2 ⟨#[]⟩ x n r d wire s g) e w' := by
  unfold fev fkl
  cases ho : Km.offC s
  · exact lfault0 w p k l row x n r d wire s g v D hD ho hc h
  · exact lfault1 w p k l row x n r d wire s g v D hD ho hc h
theorem Told.from {w w1 : World} {p : Nat} {evs : List Mm.Ev} {cs : Array Value} {e : Ending} {w' : World} (hK : Kp p w w1) (h : Told w1 p evs cs e w') : Told w p evs cs e w' := by
  obtain ⟨sl, cap, he, hE, hk, hm⟩ := h
  exact ⟨sl, cap, he, hE.base hK.size, hK.then hk, hm⟩
set_option maxRecDepth 100000 in
set_option maxHeartbeats 4000000 in
theorem lfail_any (w : World) (p : Nat) (k l : Int) (row : ByteArray) (x : Bool) (n : Nat) (r : Bool) (d wire : ByteArray) (s g : Int) (er : Nat) (her : er ≤ 1000) (hc : Km.isC s g = true) (h : LRow w p (lcs k l row x n r d wire s g)) :
    Calls Tryz.prog 89 #[bptr p, .int .i64 (er : Int)] w fun e w' => Told w p (fev (Km.sentS s g false) ⟨4, (x, n, r, d.data.toList), er⟩) (lcs (fkl (Km.sentS s g false)).1 (fkl (Km.sentS s g false)).2 ⟨#[]⟩ false 0 false ⟨#[]⟩ ⟨#[]⟩ (Km.sentS s g false) g) e w' := by
  have hlt := h.lt
  have HM : Hid (LRow w p (lcs k l row x n r d wire s g)) := h
  have HS : Hid (∀ w, Calls Tryz.prog 90 #[.agg #[.int .i64 s, .int .i64 g], .bool false] w fun e w' => e = .returned (.agg #[.int .i64 (Km.sentS s g false), .int .i64 g]) ∧ Below w.heap.size w w') := fun w => kSent_any s g false w (isC_wf hc).1 (isC_wf hc).2
  have HF : Hid (∀ w, LRow w p (lcs k l row false 0 false ⟨#[]⟩ ⟨#[]⟩ (Km.sentS s g false) g) → Calls Tryz.prog 93 #[bptr p, .agg #[.int .i64 4, .bool x, .int .u32 (n : Int), .bool r, .string d, .int .i64 (er : Int)]] w fun e w' => Told w p (fev (Km.sentS s g false) ⟨4, (x, n, r, d.data.toList), er⟩) (lcs (fkl (Km.sentS s g false)).1 (fkl (Km.sentS s g false)).2 ⟨#[]⟩ false 0 false ⟨#[]⟩ ⟨#[]⟩ (Km.sentS s g false) g) e w') := fun w h => lfault_any w p k l row false 0 false ⟨#[]⟩ ⟨#[]⟩ _ g ⟨4, (x, n, r, d.data.toList), er⟩ d rfl (Mm.isC_sent false hc) h
  have c3 : w.cell? ⟨p, 3, none⟩ = some (.bool x) := h.c 3 _ rfl
  have f3 : w.frozen? ⟨p, 3, none⟩ = false := h.f 3
  have c4 : w.cell? ⟨p, 4, none⟩ = some (.int .u32 n) := h.c 4 _ rfl
  have f4 : w.frozen? ⟨p, 4, none⟩ = false := h.f 4
  have c5 : w.cell? ⟨p, 5, none⟩ = some (.bool r) := h.c 5 _ rfl
  have f5 : w.frozen? ⟨p, 5, none⟩ = false := h.f 5
  have c6 : w.cell? ⟨p, 6, none⟩ = some (.string d) := h.c 6 _ rfl
  have f6 : w.frozen? ⟨p, 6, none⟩ = false := h.f 6
  have a3 : ∀ o, (w.alloc o).cell? ⟨p, 3, none⟩ = some (.bool x) := fun o => (h.alloc o).c 3 _ rfl
  have b3 : ∀ o, (w.alloc o).frozen? ⟨p, 3, none⟩ = false := fun o => (h.alloc o).f 3
  have a4 : ∀ o, (w.alloc o).cell? ⟨p, 4, none⟩ = some (.int .u32 n) := fun o => (h.alloc o).c 4 _ rfl
  have b4 : ∀ o, (w.alloc o).frozen? ⟨p, 4, none⟩ = false := fun o => (h.alloc o).f 4
  have a5 : ∀ o, (w.alloc o).cell? ⟨p, 5, none⟩ = some (.bool r) := fun o => (h.alloc o).c 5 _ rfl
  have b5 : ∀ o, (w.alloc o).frozen? ⟨p, 5, none⟩ = false := fun o => (h.alloc o).f 5
  have a6 : ∀ o, (w.alloc o).cell? ⟨p, 6, none⟩ = some (.string d) := fun o => (h.alloc o).c 6 _ rfl
  have b6 : ∀ o, (w.alloc o).frozen? ⟨p, 6, none⟩ = false := fun o => (h.alloc o).f 6
  have hpw : ¬ p = w.heap.size := Nat.ne_of_lt hlt
  have hwp : ¬ w.heap.size = p := fun e => hpw e.symm
  generalize fev (Km.sentS s g false) ⟨4, (x, n, r, d.data.toList), er⟩ = EV at *
  generalize (fkl (Km.sentS s g false)).1 = K1 at *
  generalize (fkl (Km.sentS s g false)).2 = K2 at *
  generalize Km.sentS s g false = S' at *
  clear h hc
  go_enter Tryz.func89, Tryz.ntmps89
  go_wp2_with fail
  refine (ldrop_any _ p k l row x n r d wire s g (HM.out.alloc _)).mono ?_
  rintro e w1 ⟨rfl, h1, h2⟩
  have HM1 : Hid (LRow w1 p (lcs k l row false 0 false ⟨#[]⟩ ⟨#[]⟩ s g)) := h1
  have HK1 : Hid (Kp p w w1) := (Kp.alloc (Kept.refl _ w) _).then h2
  have LF : Hid (Lies w1 w.heap.size x n r d) := (h2.block w.heap.size (by simp) hwp).trans (Lies.new w x n r d)
  have cm8 : w1.cell? ⟨p, 8, none⟩ = some (.int .i64 s) := h1.c 8 _ rfl
  have fm8 : w1.frozen? ⟨p, 8, none⟩ = false := h1.f 8
  have cm9 : w1.cell? ⟨p, 9, none⟩ = some (.int .i64 g) := h1.c 9 _ rfl
  have fm9 : w1.frozen? ⟨p, 9, none⟩ = false := h1.f 9
  have hs1 : Hid (w.heap.size < w1.heap.size) := LF.out.lt
  clear h1 h2 HM c3 c4 c5 c6 f3 f4 f5 f6 a3 a4 a5 a6 b3 b4 b5 b6
  go_wp2_with fail
  refine (HS.out _).mono ?_
  rintro e w2 ⟨rfl, hb⟩
  have hm := HM1.out.on hb
  have HM2 : Hid (LRow w2 p (lcs k l row false 0 false ⟨#[]⟩ ⟨#[]⟩ s g)) := hm
  have HK2 : Hid (Kp p w w2) := HK1.out.join hb
  have LF2 : Hid (Lies w2 w.heap.size x n r d) := LF.out.on hb
  have cq8 : w2.cell? ⟨p, 8, none⟩ = some (.int .i64 s) := hm.c 8 _ rfl
  have fq8 : w2.frozen? ⟨p, 8, none⟩ = false := hm.f 8
  have cq9 : w2.cell? ⟨p, 9, none⟩ = some (.int .i64 g) := hm.c 9 _ rfl
  have fq9 : w2.frozen? ⟨p, 9, none⟩ = false := hm.f 9
  have L0 := LF2.out.c0
  have L1 := LF2.out.c1
  have L2 := LF2.out.c2
  have L3 := LF2.out.c3
  clear hm hb HM1 HK1 LF cm8 cm9 fm8 fm9 HS
  go_wp2_with fail
  refine (HF.out _ ((HM2.out.set 8 _).set 9 _)).mono ?_
  rintro e w3 hR
  have HR : Hid (Told w p EV (lcs K1 K2 ⟨#[]⟩ false 0 false ⟨#[]⟩ ⟨#[]⟩ S' g) e w3) := Told.from (Kp.set1 (Kp.set1 HK2.out)) hR
  obtain ⟨sl, cap, rfl, hE, hk, hm⟩ := hR
  clear hE hk hm
  go_wp2
  go_ret
  exact HR.out
set_option maxRecDepth 100000 in
set_option maxHeartbeats 2000000 in
theorem lsettle0 (w : World) (p : Nat) (l : Int) (hl : 0 ≤ l ∧ l ≤ 100) (row : ByteArray) (x : Bool) (n : Int) (r : Bool) (d wire : ByteArray) (s g : Int) (h : LRow w p (lcs 4 l row x n r d wire s g)) :
    Calls Tryz.prog 62 #[bptr p, .string ⟨#[48]⟩] w fun e w' => e = .returned (.tuple #[]) ∧ LRow w' p (lcs 4 (max l 7) row x n r d wire s g) ∧ Kp p w w' := by
  have HM : Hid (LRow w p (lcs 4 l row x n r d wire s g)) := h
  obtain ⟨M, hM⟩ : ∃ M, max l 7 = M := ⟨_, rfl⟩
  rw [hM]
  have c1 : w.cell? ⟨p, 1, none⟩ = some (.int .i64 l) := h.c 1 _ rfl
  have f1 : w.frozen? ⟨p, 1, none⟩ = false := h.f 1
  clear h
  go_enter Tryz.func62, Tryz.ntmps62
  go_wp2
  go_end0
  exact ⟨rfl, HM.out.set 1 _, Kp.set1 (Kept.refl _ w)⟩
set_option maxRecDepth 100000 in
set_option maxHeartbeats 2000000 in
theorem lsettle1 (w : World) (p : Nat) (l : Int) (k' l' : Int) (row : ByteArray) (x : Bool) (n : Int) (r : Bool) (d wire : ByteArray) (s g : Int) (hL : ∀ w, Calls Tryz.prog 63 #[phV 4 l] w fun e w' => e = .returned (phV k' l') ∧ Below w.heap.size w w') (h : LRow w p (lcs 4 l row x n r d wire s g)) :
    Calls Tryz.prog 62 #[bptr p, .string ⟨#[49]⟩] w fun e w' => e = .returned (.tuple #[]) ∧ LRow w' p (lcs k' l' row x n r d wire s g) ∧ Kp p w w' := by
  have HM : Hid (LRow w p (lcs 4 l row x n r d wire s g)) := h
  have HL : Hid (∀ w, Calls Tryz.prog 63 #[phV 4 l] w fun e w' => e = .returned (phV k' l') ∧ Below w.heap.size w w') := hL
  have c0 : w.cell? ⟨p, 0, none⟩ = some (.int .i64 4) := h.c 0 _ rfl
  have f0 : w.frozen? ⟨p, 0, none⟩ = false := h.f 0
  have c1 : w.cell? ⟨p, 1, none⟩ = some (.int .i64 l) := h.c 1 _ rfl
  have f1 : w.frozen? ⟨p, 1, none⟩ = false := h.f 1
  clear h hL
  go_enter Tryz.func62, Tryz.ntmps62
  go_wp2_with fail
  refine (HL.out _).mono ?_
  rintro e w2 ⟨rfl, hb⟩
  have hm := HM.out.on hb
  have HM2 : Hid (LRow w2 p (lcs 4 l row x n r d wire s g)) := hm
  have HK2 : Hid (Kp p w w2) := Kp.of hb
  have cq0 : w2.cell? ⟨p, 0, none⟩ = some (.int .i64 4) := hm.c 0 _ rfl
  have fq0 : w2.frozen? ⟨p, 0, none⟩ = false := hm.f 0
  have cq1 : w2.cell? ⟨p, 1, none⟩ = some (.int .i64 l) := hm.c 1 _ rfl
  have fq1 : w2.frozen? ⟨p, 1, none⟩ = false := hm.f 1
  clear hm hb HM c0 c1 f0 f1 HL
  go_wp2
  exact bodyPost_ret (v := .tuple #[]) (by simp [results, Tryz.results62, go_sem]) rfl ⟨rfl, (HM2.out.set 0 _).set 1 _, Kp.set1 (Kp.set1 HK2.out)⟩
set_option maxRecDepth 100000 in
set_option maxHeartbeats 2000000 in
theorem lrest1 (w : World) (p : Nat) (row : ByteArray) (x : Bool) (n : Int) (r : Bool) (d wire : ByteArray) (s g : Int) (l : Int) (h : LRow w p (lcs 0 l row x n r d wire s g)) :
    Calls Tryz.prog 57 #[bptr p, .string ⟨#[49]⟩] w fun e w' => Told w p [] (lcs 0 l row x n r d wire s g) e w' := by
  have HM : Hid (LRow w p (lcs 0 l row x n r d wire s g)) := h
  have hlt := h.lt
  have c0 : w.cell? ⟨p, 0, none⟩ = some (.int .i64 0) := h.c 0 _ rfl
  have f0 : w.frozen? ⟨p, 0, none⟩ = false := h.f 0
  have c1 : w.cell? ⟨p, 1, none⟩ = some (.int .i64 l) := h.c 1 _ rfl
  have f1 : w.frozen? ⟨p, 1, none⟩ = false := h.f 1
  have a0 : ∀ o, (w.alloc o).cell? ⟨p, 0, none⟩ = some (.int .i64 0) := fun o => (h.alloc o).c 0 _ rfl
  have b0 : ∀ o, (w.alloc o).frozen? ⟨p, 0, none⟩ = false := fun o => (h.alloc o).f 0
  have a1 : ∀ o, (w.alloc o).cell? ⟨p, 1, none⟩ = some (.int .i64 l) := fun o => (h.alloc o).c 1 _ rfl
  have b1 : ∀ o, (w.alloc o).frozen? ⟨p, 1, none⟩ = false := fun o => (h.alloc o).f 1
  clear h
  go_enter Tryz.func57, Tryz.ntmps57
  go_wp2
  go_ret
  exact ⟨_, _, rfl, EvAt.empty _ _, Kp.alloc (Kept.refl _ w) _, HM.out.alloc _⟩
set_option maxRecDepth 100000 in
set_option maxHeartbeats 2000000 in
theorem lrest2 (w : World) (p : Nat) (row : ByteArray) (x : Bool) (n : Int) (r : Bool) (d wire : ByteArray) (s g : Int) (l k' l' : Int) (hL : ∀ w, Calls Tryz.prog 63 #[phV 5 l] w fun e w' => e = .returned (phV k' l') ∧ Below w.heap.size w w') (h : LRow w p (lcs 5 l row x n r d wire s g)) :
    Calls Tryz.prog 57 #[bptr p, .string ⟨#[49]⟩] w fun e w' => Told w p [] (lcs k' l' row x n r d wire s g) e w' := by
  have HM : Hid (LRow w p (lcs 5 l row x n r d wire s g)) := h
  have HL : Hid (∀ w, Calls Tryz.prog 63 #[phV 5 l] w fun e w' => e = .returned (phV k' l') ∧ Below w.heap.size w w') := hL
  have hlt := h.lt
  have c0 : w.cell? ⟨p, 0, none⟩ = some (.int .i64 5) := h.c 0 _ rfl
  have f0 : w.frozen? ⟨p, 0, none⟩ = false := h.f 0
  have c1 : w.cell? ⟨p, 1, none⟩ = some (.int .i64 l) := h.c 1 _ rfl
  have f1 : w.frozen? ⟨p, 1, none⟩ = false := h.f 1
  have a0 : ∀ o, (w.alloc o).cell? ⟨p, 0, none⟩ = some (.int .i64 5) := fun o => (h.alloc o).c 0 _ rfl
  have b0 : ∀ o, (w.alloc o).frozen? ⟨p, 0, none⟩ = false := fun o => (h.alloc o).f 0
  have a1 : ∀ o, (w.alloc o).cell? ⟨p, 1, none⟩ = some (.int .i64 l) := fun o => (h.alloc o).c 1 _ rfl
  have b1 : ∀ o, (w.alloc o).frozen? ⟨p, 1, none⟩ = false := fun o => (h.alloc o).f 1
  clear h hL
  go_enter Tryz.func57, Tryz.ntmps57
  go_wp2_with fail
  refine (HL.out _).mono ?_
  rintro e w2 ⟨rfl, hb⟩
  have hm := (HM.out.alloc _).on hb
  have HM2 : Hid (LRow w2 p (lcs 5 l row x n r d wire s g)) := hm
  have HK2 : Hid (Kp p w w2) := (Kp.alloc (Kept.refl _ w) _).join hb
  have cq0 : w2.cell? ⟨p, 0, none⟩ = some (.int .i64 5) := hm.c 0 _ rfl
  have fq0 : w2.frozen? ⟨p, 0, none⟩ = false := hm.f 0
  have cq1 : w2.cell? ⟨p, 1, none⟩ = some (.int .i64 l) := hm.c 1 _ rfl
  have fq1 : w2.frozen? ⟨p, 1, none⟩ = false := hm.f 1
  clear hm hb HM c0 c1 f0 f1 a0 a1 b0 b1 HL
  go_wp2
  go_ret
  exact ⟨_, _, rfl, EvAt.empty _ _, Kp.set1 (Kp.set1 HK2.out), (HM2.out.set 0 _).set 1 _⟩
set_option maxRecDepth 100000 in
set_option maxHeartbeats 2000000 in
theorem lrest3 (w : World) (p : Nat) (row : ByteArray) (x : Bool) (n : Int) (r : Bool) (d wire : ByteArray) (s g : Int) (l : Int) (h : LRow w p (lcs 5 l row x n r d wire s g)) :
    Calls Tryz.prog 57 #[bptr p, .string ⟨#[48]⟩] w fun e w' => Told w p [⟨6, Cm.noF, 0⟩] (lcs 2 0 ⟨#[48]⟩ x n r d wire s g) e w' := by
  have HM : Hid (LRow w p (lcs 5 l row x n r d wire s g)) := h
  have hlt := h.lt
  have hpw : ¬ p = w.heap.size := Nat.ne_of_lt hlt
  have hwp : ¬ w.heap.size = p := fun e => hpw e.symm
  have c0 : w.cell? ⟨p, 0, none⟩ = some (.int .i64 5) := h.c 0 _ rfl
  have f0 : w.frozen? ⟨p, 0, none⟩ = false := h.f 0
  have c1 : w.cell? ⟨p, 1, none⟩ = some (.int .i64 l) := h.c 1 _ rfl
  have f1 : w.frozen? ⟨p, 1, none⟩ = false := h.f 1
  have c2 : w.cell? ⟨p, 2, none⟩ = some (.string row) := h.c 2 _ rfl
  have f2 : w.frozen? ⟨p, 2, none⟩ = false := h.f 2
  have a0 : ∀ o, (w.alloc o).cell? ⟨p, 0, none⟩ = some (.int .i64 5) := fun o => (h.alloc o).c 0 _ rfl
  have b0 : ∀ o, (w.alloc o).frozen? ⟨p, 0, none⟩ = false := fun o => (h.alloc o).f 0
  have a1 : ∀ o, (w.alloc o).cell? ⟨p, 1, none⟩ = some (.int .i64 l) := fun o => (h.alloc o).c 1 _ rfl
  have b1 : ∀ o, (w.alloc o).frozen? ⟨p, 1, none⟩ = false := fun o => (h.alloc o).f 1
  have a2 : ∀ o, (w.alloc o).cell? ⟨p, 2, none⟩ = some (.string row) := fun o => (h.alloc o).c 2 _ rfl
  have b2 : ∀ o, (w.alloc o).frozen? ⟨p, 2, none⟩ = false := fun o => (h.alloc o).f 2
  clear h
  go_enter Tryz.func57, Tryz.ntmps57
  go_wp2
  go_ret
  exact ⟨_, _, rfl, EvAt.one (alloc_at (by simp)) (by omega), Kp.alloc (Kp.alloc (Kp.set1 (Kp.set1 (Kp.set1 (Kept.refl _ w)))) _) _, ((((HM.out.set 2 _).set 0 _).set 1 _).alloc _).alloc _⟩
set_option maxRecDepth 100000 in
set_option maxHeartbeats 2000000 in
theorem lrest4 (w : World) (p : Nat) (row : ByteArray) (x : Bool) (n : Int) (r : Bool) (d : ByteArray) (s g : Int) (l : Int) (h : LRow w p (lcs 0 l row x n r d ⟨#[]⟩ s g)) :
    Calls Tryz.prog 57 #[bptr p, .string ⟨#[48]⟩] w fun e w' => Told w p [⟨6, Cm.noF, 0⟩] (lcs 2 0 ⟨#[48]⟩ x n r d ⟨#[]⟩ s g) e w' := by
  have HM : Hid (LRow w p (lcs 0 l row x n r d ⟨#[]⟩ s g)) := h
  have hlt := h.lt
  have hpw : ¬ p = w.heap.size := Nat.ne_of_lt hlt
  have hwp : ¬ w.heap.size = p := fun e => hpw e.symm
  have c0 : w.cell? ⟨p, 0, none⟩ = some (.int .i64 0) := h.c 0 _ rfl
  have f0 : w.frozen? ⟨p, 0, none⟩ = false := h.f 0
  have c1 : w.cell? ⟨p, 1, none⟩ = some (.int .i64 l) := h.c 1 _ rfl
  have f1 : w.frozen? ⟨p, 1, none⟩ = false := h.f 1
  have c2 : w.cell? ⟨p, 2, none⟩ = some (.string row) := h.c 2 _ rfl
  have f2 : w.frozen? ⟨p, 2, none⟩ = false := h.f 2
  have a0 : ∀ o, (w.alloc o).cell? ⟨p, 0, none⟩ = some (.int .i64 0) := fun o => (h.alloc o).c 0 _ rfl
  have b0 : ∀ o, (w.alloc o).frozen? ⟨p, 0, none⟩ = false := fun o => (h.alloc o).f 0
  have a1 : ∀ o, (w.alloc o).cell? ⟨p, 1, none⟩ = some (.int .i64 l) := fun o => (h.alloc o).c 1 _ rfl
  have b1 : ∀ o, (w.alloc o).frozen? ⟨p, 1, none⟩ = false := fun o => (h.alloc o).f 1
  have a2 : ∀ o, (w.alloc o).cell? ⟨p, 2, none⟩ = some (.string row) := fun o => (h.alloc o).c 2 _ rfl
  have b2 : ∀ o, (w.alloc o).frozen? ⟨p, 2, none⟩ = false := fun o => (h.alloc o).f 2
  clear h
  go_enter Tryz.func57, Tryz.ntmps57
  go_wp2_with fail
  refine (lbusy0 _ p 2 0 ⟨#[48]⟩ x n r d s g ((((HM.out.set 2 _).set 0 _).set 1 _).alloc _)).mono ?_
  rintro e w2 ⟨rfl, hb⟩
  have HM2 : Hid (LRow w2 p (lcs 2 0 ⟨#[48]⟩ x n r d ⟨#[]⟩ s g)) := LRow.on ((((HM.out.set 2 _).set 0 _).set 1 _).alloc _) hb
  have HK2 : Hid (Kp p w w2) := (Kp.alloc (Kp.set1 (Kp.set1 (Kp.set1 (Kept.refl _ w)))) _).join hb
  clear hb HM c0 c1 c2 f0 f1 f2 a0 a1 a2 b0 b1 b2
  go_wp2
  go_ret
  exact ⟨_, _, rfl, EvAt.one (alloc_at rfl) HK2.out.size, Kp.alloc HK2.out _, HM2.out.alloc _⟩
set_option maxRecDepth 100000 in
set_option maxHeartbeats 2000000 in
theorem lrest5 (w : World) (p : Nat) (row : ByteArray) (x : Bool) (n : Int) (r : Bool) (d wire : ByteArray) (s g : Int) (l : Int) (hw : 0 < wire.size) (hw2 : wire.size ≤ 1000) (h : LRow w p (lcs 0 l row x n r d wire s g)) :
    Calls Tryz.prog 57 #[bptr p, .string ⟨#[48]⟩] w fun e w' => Told w p [⟨6, Cm.noF, 0⟩] (lcs 1 ((wire.size : Int) - 1) ⟨#[48]⟩ x n r d wire s g) e w' := by
  have HM : Hid (LRow w p (lcs 0 l row x n r d wire s g)) := h
  have HW : Hid (0 < wire.size) := hw
  have hlt := h.lt
  have hpw : ¬ p = w.heap.size := Nat.ne_of_lt hlt
  have hwp : ¬ w.heap.size = p := fun e => hpw e.symm
  have c0 : w.cell? ⟨p, 0, none⟩ = some (.int .i64 0) := h.c 0 _ rfl
  have f0 : w.frozen? ⟨p, 0, none⟩ = false := h.f 0
  have c1 : w.cell? ⟨p, 1, none⟩ = some (.int .i64 l) := h.c 1 _ rfl
  have f1 : w.frozen? ⟨p, 1, none⟩ = false := h.f 1
  have c2 : w.cell? ⟨p, 2, none⟩ = some (.string row) := h.c 2 _ rfl
  have f2 : w.frozen? ⟨p, 2, none⟩ = false := h.f 2
  have a0 : ∀ o, (w.alloc o).cell? ⟨p, 0, none⟩ = some (.int .i64 0) := fun o => (h.alloc o).c 0 _ rfl
  have b0 : ∀ o, (w.alloc o).frozen? ⟨p, 0, none⟩ = false := fun o => (h.alloc o).f 0
  have a1 : ∀ o, (w.alloc o).cell? ⟨p, 1, none⟩ = some (.int .i64 l) := fun o => (h.alloc o).c 1 _ rfl
  have b1 : ∀ o, (w.alloc o).frozen? ⟨p, 1, none⟩ = false := fun o => (h.alloc o).f 1
  have a2 : ∀ o, (w.alloc o).cell? ⟨p, 2, none⟩ = some (.string row) := fun o => (h.alloc o).c 2 _ rfl
  have b2 : ∀ o, (w.alloc o).frozen? ⟨p, 2, none⟩ = false := fun o => (h.alloc o).f 2
  clear h hw
  go_enter Tryz.func57, Tryz.ntmps57
  go_wp2_with fail
  refine (lbusy1 _ p 2 0 ⟨#[48]⟩ x n r d wire s g HW.out ((((HM.out.set 2 _).set 0 _).set 1 _).alloc _)).mono ?_
  rintro e w2 ⟨rfl, hb⟩
  have hm : LRow w2 p (lcs 2 0 ⟨#[48]⟩ x n r d wire s g) := LRow.on ((((HM.out.set 2 _).set 0 _).set 1 _).alloc _) hb
  have HM2 : Hid (LRow w2 p (lcs 2 0 ⟨#[48]⟩ x n r d wire s g)) := hm
  have HK2 : Hid (Kp p w w2) := (Kp.alloc (Kp.set1 (Kp.set1 (Kp.set1 (Kept.refl _ w)))) _).join hb
  clear c0 c1 c2 f0 f1 f2 a0 a1 a2 b0 b1 b2
  have c0 : w2.cell? ⟨p, 0, none⟩ = some (.int .i64 2) := hm.c 0 _ rfl
  have f0 : w2.frozen? ⟨p, 0, none⟩ = false := hm.f 0
  have c1 : w2.cell? ⟨p, 1, none⟩ = some (.int .i64 0) := hm.c 1 _ rfl
  have f1 : w2.frozen? ⟨p, 1, none⟩ = false := hm.f 1
  have c7 : w2.cell? ⟨p, 7, none⟩ = some (.string wire) := hm.c 7 _ rfl
  have f7 : w2.frozen? ⟨p, 7, none⟩ = false := hm.f 7
  clear hb HM hm
  go_wp2
  go_ret
  exact ⟨_, _, rfl, EvAt.one (alloc_at (by simp)) HK2.out.size, Kp.alloc (Kp.set1 (Kp.set1 HK2.out)) _, ((HM2.out.set 0 _).set 1 _).alloc _⟩
end Go.Proofs.YthkaekpoicodeaaGreatDoor
/- Package mac, over the landed code: loses, send. -/
namespace Go.Proofs.YthkaekpoicodeaaGreatDoor
open Go.RowKit
set_option linter.unusedVariables false
set_option maxRecDepth 100000 in
set_option maxHeartbeats 2000000 in
theorem lloses1 (w : World) (p : Nat) : Calls Tryz.prog 58 #[bptr p, .string ⟨#[49]⟩] w fun e w' => e = .returned (.bool false) ∧ Below w.heap.size w w' := by
  go_enter Tryz.func58, Tryz.ntmps58
  go_wp2_with fail
  refine Lw.wp_region_quiet_below (by kernel_rfl) (by kernel_rfl) ?_
  repeat (first
    | go_big_quiet_skip
    | (go_big_quiet_want; go_big_quiet_op; go_big_quiet_on)
    | (go_big_quiet_want; go_big_quiet_op; apply Exists.intro; refine ⟨fun _ hb' => ?_, ?_⟩; (first
      | exact Lw.val_rfl _); go_big_quiet_on))
  refine wpQuiet_nil ?_
  intro w2 hb2
  go_wp2
  go_ret
  exact ⟨rfl, hb2⟩
set_option maxRecDepth 100000 in
set_option maxHeartbeats 2000000 in
theorem lloses2 (w : World) (p : Nat) (hN : ∀ w', Below w.heap.size w w' → Calls Tryz.prog 55 #[bptr p] w' fun e w'' => e = .returned (.int .u8 48) ∧ Below w'.heap.size w' w'') :
    Calls Tryz.prog 58 #[bptr p, .string ⟨#[48]⟩] w fun e w' => e = .returned (.bool false) ∧ Below w.heap.size w w' := by
  have HN : Hid (∀ w', Below w.heap.size w w' → Calls Tryz.prog 55 #[bptr p] w' fun e w'' => e = .returned (.int .u8 48) ∧ Below w'.heap.size w' w'') := hN
  clear hN
  go_enter Tryz.func58, Tryz.ntmps58
  go_wp2_with fail
  refine Lw.wp_region_quiet_below (by kernel_rfl) (by kernel_rfl) ?_
  repeat (first
    | go_big_quiet_skip
    | (go_big_quiet_want; go_big_quiet_op; go_big_quiet_on)
    | (go_big_quiet_want; go_big_quiet_op; apply Exists.intro; refine ⟨fun _ hb' => ?_, ?_⟩; (first
      | exact Lw.val_rfl _
      | (go_at_call 55; exact Lw.calls_below hb' (HN.out _ hb'))); go_big_quiet_on))
  refine wpQuiet_nil ?_
  intro w2 hb2
  go_wp2
  go_ret
  exact ⟨rfl, hb2⟩
set_option maxRecDepth 100000 in
set_option maxHeartbeats 4000000 in
theorem lloses3 (w : World) (p : Nat) (k l : Int) (row : ByteArray) (x : Bool) (n : Nat) (r : Bool) (d wire : ByteArray) (s g : Int) (hn : n < 4294967296) (hf : Fm.isF x n r d.data.toList = true) (hr : row.size ≤ 1000) (hT : Tab w) (b : Bool) (hb : decide (row.size < (Sm.stuff (Fm.arb0 x n r)).length) = b)
    (hN : ∀ w', Below w.heap.size w w' → Calls Tryz.prog 55 #[bptr p] w' fun e w'' => e = .returned (.int .u8 49) ∧ Below w'.heap.size w' w'') (h : LRow w p (lcs k l row x n r d wire s g)) :
    Calls Tryz.prog 58 #[bptr p, .string ⟨#[48]⟩] w fun e w' => e = .returned (.bool b) ∧ Below w.heap.size w w' := by
  have HN : Hid (∀ w', Below w.heap.size w w' → Calls Tryz.prog 55 #[bptr p] w' fun e w'' => e = .returned (.int .u8 49) ∧ Below w'.heap.size w' w'') := hN
  have HT : Hid (Tab w) := hT
  have harb : Fm.arb x n r d.data.toList = Fm.arb0 x n r := by unfold Fm.arb; rw [if_pos hf]
  have HA : Hid (∀ w, Tab w → Calls Tryz.prog 88 #[.agg #[.bool x, .int .u32 n, .bool r, .string d]] w fun e w' => e = .returned (.string ⟨(Bm.row (Fm.arb0 x n r)).toArray⟩) ∧ Below w.heap.size w w') := fun w hT => by
    have h := fArb_any x n r d w hT hn
    rw [harb] at h
    exact h
  have HS : Hid (∀ w, Calls Tryz.prog 51 #[.string ⟨(Bm.row (Fm.arb0 x n r)).toArray⟩] w fun e w' => e = .returned (.string ⟨(Bm.row (Sm.stuff (Fm.arb0 x n r))).toArray⟩) ∧ Below w.heap.size w w') := fun w => by
    have h := stuff_any ⟨(Bm.row (Fm.arb0 x n r)).toArray⟩ w (by rw [row_size]; rw [Fm.length_arb0]; split <;> omega)
    rw [row_data] at h
    exact h
  have hz : (ByteArray.mk (Bm.row (Sm.stuff (Fm.arb0 x n r))).toArray).size = (Sm.stuff (Fm.arb0 x n r)).length := row_size _
  rw [← hz] at hb
  have hzl : (ByteArray.mk (Bm.row (Sm.stuff (Fm.arb0 x n r))).toArray).size ≤ 1000 := by
    rw [hz]
    have h1 := Mm.arb_le (x, n, r, d.data.toList)
    have h2 := Mm.out_len (f := (x, n, r, d.data.toList)) hf
    have h3 : Mm.arbL (x, n, r, d.data.toList) = (Sm.stuff (Fm.arb0 x n r)).length := rfl
    omega
  have HC : Hid (∀ w', Below w.heap.size w w' → w'.cell? ⟨p, 2, none⟩ = some (.string row) ∧ w'.cell? ⟨p, 3, none⟩ = some (.bool x) ∧ w'.cell? ⟨p, 4, none⟩ = some (.int .u32 (n : Int)) ∧ w'.cell? ⟨p, 5, none⟩ = some (.bool r) ∧ w'.cell? ⟨p, 6, none⟩ = some (.string d)) := fun w' hb => ⟨(h.on hb).c 2 _ rfl, (h.on hb).c 3 _ rfl, (h.on hb).c 4 _ rfl, (h.on hb).c 5 _ rfl, (h.on hb).c 6 _ rfl⟩
  clear hN hT harb h hz hf hn
  generalize ByteArray.mk (Bm.row (Sm.stuff (Fm.arb0 x n r))).toArray = T at *
  generalize ByteArray.mk (Bm.row (Fm.arb0 x n r)).toArray = A at *
  go_enter Tryz.func58, Tryz.ntmps58
  go_wp2_with fail
  refine Lw.wp_region_quiet_below (by kernel_rfl) (by kernel_rfl) ?_
  repeat (first
    | go_big_quiet_skip
    | (go_big_quiet_want; go_big_quiet_op; go_big_quiet_on)
    | (go_big_quiet_want; go_big_quiet_op; apply Exists.intro; refine ⟨fun _ hb' => ?_, ?_⟩; (first
      | exact Lw.val_rfl _
      | (go_at_call 55; exact Lw.calls_below hb' (HN.out _ hb'))
      | (go_at_call 88; exact Lw.calls_below hb' (HA.out _ (HT.out.below hb')))
      | (go_at_call 51; exact Lw.calls_below hb' (HS.out _))
      | (simp [go_sem, (HC.out _ hb').1]; rfl)
      | (simp [go_sem, (HC.out _ hb').2.1, (HC.out _ hb').2.2.1, (HC.out _ hb').2.2.2.1, (HC.out _ hb').2.2.2.2]; rfl)); go_big_quiet_on))
  refine wpQuiet_nil ?_
  intro w2 hb2
  go_wp2
  go_ret
  exact ⟨ret_b (by rw [← hb]), hb2⟩
end Go.Proofs.YthkaekpoicodeaaGreatDoor
/- Package mac, over the landed code: send. -/
namespace Go.Proofs.YthkaekpoicodeaaGreatDoor
open Go.RowKit
set_option linter.unusedVariables false
set_option maxRecDepth 100000 in
set_option maxHeartbeats 4000000 in
theorem lsend_ack (w : World) (p : Nat) (row : ByteArray) (x : Bool) (n : Nat) (r : Bool) (d wire : ByteArray) (s g : Int) (hc : Km.isC s g = true) (h : LRow w p (lcs 1 9 row x n r d wire s g)) :
    Calls Tryz.prog 59 #[bptr p, .string ⟨#[49]⟩] w fun e w' => Told w p (fev (Km.sentS s g false) ⟨4, (x, n, r, d.data.toList), 71⟩) (lcs (fkl (Km.sentS s g false)).1 (fkl (Km.sentS s g false)).2 ⟨#[]⟩ false 0 false ⟨#[]⟩ ⟨#[]⟩ (Km.sentS s g false) g) e w' := by
  have hlt := h.lt
  have HM : Hid (LRow w p (lcs 1 9 row x n r d wire s g)) := h
  have HF : Hid (Calls Tryz.prog 89 #[bptr p, .int .i64 71] w fun e w' => Told w p (fev (Km.sentS s g false) ⟨4, (x, n, r, d.data.toList), 71⟩) (lcs (fkl (Km.sentS s g false)).1 (fkl (Km.sentS s g false)).2 ⟨#[]⟩ false 0 false ⟨#[]⟩ ⟨#[]⟩ (Km.sentS s g false) g) e w') := lfail_any w p 1 9 row x n r d wire s g 71 (by decide) hc h
  have c0 : w.cell? ⟨p, 0, none⟩ = some (.int .i64 1) := h.c 0 _ rfl
  have f0 : w.frozen? ⟨p, 0, none⟩ = false := h.f 0
  have c1 : w.cell? ⟨p, 1, none⟩ = some (.int .i64 9) := h.c 1 _ rfl
  have f1 : w.frozen? ⟨p, 1, none⟩ = false := h.f 1
  have a0 : ∀ o, (w.alloc o).cell? ⟨p, 0, none⟩ = some (.int .i64 1) := fun o => (h.alloc o).c 0 _ rfl
  have b0 : ∀ o, (w.alloc o).frozen? ⟨p, 0, none⟩ = false := fun o => (h.alloc o).f 0
  have a1 : ∀ o, (w.alloc o).cell? ⟨p, 1, none⟩ = some (.int .i64 9) := fun o => (h.alloc o).c 1 _ rfl
  have b1 : ∀ o, (w.alloc o).frozen? ⟨p, 1, none⟩ = false := fun o => (h.alloc o).f 1
  generalize fev (Km.sentS s g false) ⟨4, (x, n, r, d.data.toList), 71⟩ = EV at *
  generalize (fkl (Km.sentS s g false)).1 = K1 at *
  generalize (fkl (Km.sentS s g false)).2 = K2 at *
  generalize Km.sentS s g false = S' at *
  clear h hc
  go_enter Tryz.func59, Tryz.ntmps59
  go_wp2_with fail
  refine HF.out.mono ?_
  rintro e w3 hR
  have HR : Hid (Told w p EV (lcs K1 K2 ⟨#[]⟩ false 0 false ⟨#[]⟩ ⟨#[]⟩ S' g) e w3) := hR
  obtain ⟨sl, cap, rfl, hE, hk, hm⟩ := hR
  clear hE hk hm
  go_wp2
  go_ret
  exact HR.out
set_option maxRecDepth 100000 in
set_option maxHeartbeats 4000000 in
theorem lsend_bit (w : World) (p : Nat) (l : Int) (row : ByteArray) (x : Bool) (n : Nat) (r : Bool) (d wire : ByteArray) (s g : Int) (c : Bool) (hl : (l == 9) = false) (hc : Km.isC s g = true)
    (hN : ∀ w', Below w.heap.size w w' → Calls Tryz.prog 55 #[bptr p] w' fun e w'' => e = .returned (dV (!c)) ∧ Below w'.heap.size w' w'') (h : LRow w p (lcs 1 l row x n r d wire s g)) :
    Calls Tryz.prog 59 #[bptr p, .string ⟨#[if c then 49 else 48]⟩] w fun e w' => Told w p (fev (Km.sentS s g false) ⟨4, (x, n, r, d.data.toList), 70⟩) (lcs (fkl (Km.sentS s g false)).1 (fkl (Km.sentS s g false)).2 ⟨#[]⟩ false 0 false ⟨#[]⟩ ⟨#[]⟩ (Km.sentS s g false) g) e w' := by
  have hlt := h.lt
  have HM : Hid (LRow w p (lcs 1 l row x n r d wire s g)) := h
  have HN : Hid (∀ w', Below w.heap.size w w' → Calls Tryz.prog 55 #[bptr p] w' fun e w'' => e = .returned (dV (!c)) ∧ Below w'.heap.size w' w'') := hN
  have HF : Hid (∀ w', Below w.heap.size w w' → Calls Tryz.prog 89 #[bptr p, .int .i64 70] w' fun e w'' => Told w' p (fev (Km.sentS s g false) ⟨4, (x, n, r, d.data.toList), 70⟩) (lcs (fkl (Km.sentS s g false)).1 (fkl (Km.sentS s g false)).2 ⟨#[]⟩ false 0 false ⟨#[]⟩ ⟨#[]⟩ (Km.sentS s g false) g) e w'') := fun w' hb => lfail_any w' p 1 l row x n r d wire s g 70 (by decide) hc (h.on hb)
  have c0 : w.cell? ⟨p, 0, none⟩ = some (.int .i64 1) := h.c 0 _ rfl
  have f0 : w.frozen? ⟨p, 0, none⟩ = false := h.f 0
  have c1 : w.cell? ⟨p, 1, none⟩ = some (.int .i64 l) := h.c 1 _ rfl
  have f1 : w.frozen? ⟨p, 1, none⟩ = false := h.f 1
  have a0 : ∀ o, (w.alloc o).cell? ⟨p, 0, none⟩ = some (.int .i64 1) := fun o => (h.alloc o).c 0 _ rfl
  have b0 : ∀ o, (w.alloc o).frozen? ⟨p, 0, none⟩ = false := fun o => (h.alloc o).f 0
  have a1 : ∀ o, (w.alloc o).cell? ⟨p, 1, none⟩ = some (.int .i64 l) := fun o => (h.alloc o).c 1 _ rfl
  have b1 : ∀ o, (w.alloc o).frozen? ⟨p, 1, none⟩ = false := fun o => (h.alloc o).f 1
  generalize fev (Km.sentS s g false) ⟨4, (x, n, r, d.data.toList), 70⟩ = EV at *
  generalize (fkl (Km.sentS s g false)).1 = K1 at *
  generalize (fkl (Km.sentS s g false)).2 = K2 at *
  generalize Km.sentS s g false = S' at *
  clear h hc hN
  cases c
  all_goals
    go_enter Tryz.func59, Tryz.ntmps59
    go_wp2_with fail
    refine Lw.wp_region_quiet_below (by kernel_rfl) (by kernel_rfl) ?_
    repeat (first
      | go_big_quiet_skip
      | (go_big_quiet_want; go_big_quiet_op; go_big_quiet_on)
      | (go_big_quiet_want; go_big_quiet_op; apply Exists.intro; refine ⟨fun _ hb' => ?_, ?_⟩; (first
        | exact Lw.val_rfl _
        | (go_at_call 55; exact Lw.calls_below hb' (HN.out _ hb'))); go_big_quiet_on))
    refine wpQuiet_nil ?_
    intro w2 hb2
    have HB2 : Hid (Below w.heap.size w w2) := hb2
    clear hb2
    go_wp2_with fail
    refine (HF.out _ HB2.out).mono ?_
    rintro e w3 hR
    have HR : Hid (Told w p EV (lcs K1 K2 ⟨#[]⟩ false 0 false ⟨#[]⟩ ⟨#[]⟩ S' g) e w3) := Told.from (Kp.of HB2.out) hR
    obtain ⟨sl, cap, rfl, hE, hk, hm⟩ := hR
    clear hE hk hm
    go_wp2
    go_ret
    exact HR.out
/-- The bit that comes is what the sender drives; at the second one behind the sum a 0. -/
def Fits (w : World) (p : Nat) (l : Int) (c : Bool) : Prop := l = 9 ∧ c = false ∨ (l == 9) = false ∧ ∀ w', Below w.heap.size w w' → Calls Tryz.prog 55 #[bptr p] w' fun e w'' => e = .returned (dV c) ∧ Below w'.heap.size w' w''
set_option maxRecDepth 100000 in
set_option maxHeartbeats 4000000 in
theorem lsend_on (w : World) (p : Nat) (l : Int) (row : ByteArray) (x : Bool) (n : Nat) (r : Bool) (d wire : ByteArray) (s g : Int) (c : Bool) (h1 : 1 < l) (h2 : l ≤ 1000) (hr : row.size ≤ 1000)
    (hF : Fits w p l c) (h : LRow w p (lcs 1 l row x n r d wire s g)) :
    Calls Tryz.prog 59 #[bptr p, .string ⟨#[if c then 49 else 48]⟩] w fun e w' => Told w p [] (lcs 1 (l - 1) (row ++ ⟨#[if c then 49 else 48]⟩) x n r d wire s g) e w' := by
  have hlt := h.lt
  have HM : Hid (LRow w p (lcs 1 l row x n r d wire s g)) := h
  have HL : Hid (∀ w, Calls Tryz.prog 63 #[phV 1 l] w fun e w' => e = .returned (phV 1 (l - 1)) ∧ Below w.heap.size w w') := fun w => less_more 1 l h1 h2 w
  rcases hF with ⟨rfl, rfl⟩ | ⟨hl, hN⟩
  · show Calls Tryz.prog 59 #[bptr p, .string ⟨#[48]⟩] w fun e w' => Told w p [] (lcs 1 8 (row ++ ⟨#[48]⟩) x n r d wire s g) e w'
    have c0 : w.cell? ⟨p, 0, none⟩ = some (.int .i64 1) := h.c 0 _ rfl
    have f0 : w.frozen? ⟨p, 0, none⟩ = false := h.f 0
    have c1 : w.cell? ⟨p, 1, none⟩ = some (.int .i64 9) := h.c 1 _ rfl
    have f1 : w.frozen? ⟨p, 1, none⟩ = false := h.f 1
    have c2 : w.cell? ⟨p, 2, none⟩ = some (.string row) := h.c 2 _ rfl
    have f2 : w.frozen? ⟨p, 2, none⟩ = false := h.f 2
    have a0 : ∀ o, (w.alloc o).cell? ⟨p, 0, none⟩ = some (.int .i64 1) := fun o => (h.alloc o).c 0 _ rfl
    have b0 : ∀ o, (w.alloc o).frozen? ⟨p, 0, none⟩ = false := fun o => (h.alloc o).f 0
    have a1 : ∀ o, (w.alloc o).cell? ⟨p, 1, none⟩ = some (.int .i64 9) := fun o => (h.alloc o).c 1 _ rfl
    have b1 : ∀ o, (w.alloc o).frozen? ⟨p, 1, none⟩ = false := fun o => (h.alloc o).f 1
    have a2 : ∀ o, (w.alloc o).cell? ⟨p, 2, none⟩ = some (.string row) := fun o => (h.alloc o).c 2 _ rfl
    have b2 : ∀ o, (w.alloc o).frozen? ⟨p, 2, none⟩ = false := fun o => (h.alloc o).f 2
    clear h
    go_enter Tryz.func59, Tryz.ntmps59
    go_wp2_with fail
    have HMW : Hid (LRow w p (lcs 1 9 row x n r d wire s g)) := HM
    have HKW : Hid (Kp p w w) := Kept.refl _ w
    refine (HL.out _).mono ?_
    rintro e w3 ⟨rfl, hb⟩
    have hm : LRow w3 p (lcs 1 9 (row ++ ⟨#[48]⟩) x n r d wire s g) := LRow.on (HMW.out.set 2 _) hb
    have HM3 : Hid (LRow w3 p (lcs 1 9 (row ++ ⟨#[48]⟩) x n r d wire s g)) := hm
    have HK3 : Hid (Kp p w w3) := Kp.join (Kp.set1 HKW.out) hb
    have cz0 : w3.cell? ⟨p, 0, none⟩ = some (.int .i64 1) := hm.c 0 _ rfl
    have fz0 : w3.frozen? ⟨p, 0, none⟩ = false := hm.f 0
    have cz1 : w3.cell? ⟨p, 1, none⟩ = some (.int .i64 9) := hm.c 1 _ rfl
    have fz1 : w3.frozen? ⟨p, 1, none⟩ = false := hm.f 1
    clear hm hb HL
    go_wp2
    go_ret
    exact ⟨_, _, rfl, EvAt.empty _ _, Kp.set1 (Kp.set1 HK3.out), (HM3.out.set 0 _).set 1 _⟩
  · have HN : Hid (∀ w', Below w.heap.size w w' → Calls Tryz.prog 55 #[bptr p] w' fun e w'' => e = .returned (dV c) ∧ Below w'.heap.size w' w'') := hN
    have c0 : w.cell? ⟨p, 0, none⟩ = some (.int .i64 1) := h.c 0 _ rfl
    have f0 : w.frozen? ⟨p, 0, none⟩ = false := h.f 0
    have c1 : w.cell? ⟨p, 1, none⟩ = some (.int .i64 l) := h.c 1 _ rfl
    have f1 : w.frozen? ⟨p, 1, none⟩ = false := h.f 1
    have c2 : w.cell? ⟨p, 2, none⟩ = some (.string row) := h.c 2 _ rfl
    have f2 : w.frozen? ⟨p, 2, none⟩ = false := h.f 2
    have a0 : ∀ o, (w.alloc o).cell? ⟨p, 0, none⟩ = some (.int .i64 1) := fun o => (h.alloc o).c 0 _ rfl
    have b0 : ∀ o, (w.alloc o).frozen? ⟨p, 0, none⟩ = false := fun o => (h.alloc o).f 0
    have a1 : ∀ o, (w.alloc o).cell? ⟨p, 1, none⟩ = some (.int .i64 l) := fun o => (h.alloc o).c 1 _ rfl
    have b1 : ∀ o, (w.alloc o).frozen? ⟨p, 1, none⟩ = false := fun o => (h.alloc o).f 1
    have a2 : ∀ o, (w.alloc o).cell? ⟨p, 2, none⟩ = some (.string row) := fun o => (h.alloc o).c 2 _ rfl
    have b2 : ∀ o, (w.alloc o).frozen? ⟨p, 2, none⟩ = false := fun o => (h.alloc o).f 2
    clear h hN
    cases c
    · show Calls Tryz.prog 59 #[bptr p, .string ⟨#[48]⟩] w fun e w' => Told w p [] (lcs 1 (l - 1) (row ++ ⟨#[48]⟩) x n r d wire s g) e w'
      go_enter Tryz.func59, Tryz.ntmps59
      go_wp2_with fail
      refine Lw.wp_region_quiet_below (by kernel_rfl) (by kernel_rfl) ?_
      repeat (first
        | go_big_quiet_skip
        | (go_big_quiet_want; go_big_quiet_op; go_big_quiet_on)
        | (go_big_quiet_want; go_big_quiet_op; apply Exists.intro; refine ⟨fun _ hb' => ?_, ?_⟩; (first
          | exact Lw.val_rfl _
          | (go_at_call 55; exact Lw.calls_below hb' (HN.out _ hb'))); go_big_quiet_on))
      refine wpQuiet_nil ?_
      intro w2 hb2
      have hm := HM.out.on hb2
      have HMW : Hid (LRow w2 p (lcs 1 l row x n r d wire s g)) := hm
      have HKW : Hid (Kp p w w2) := Kp.of hb2
      clear c0 c1 c2 f0 f1 f2 a0 a1 a2 b0 b1 b2
      have c0 : w2.cell? ⟨p, 0, none⟩ = some (.int .i64 1) := hm.c 0 _ rfl
      have f0 : w2.frozen? ⟨p, 0, none⟩ = false := hm.f 0
      have c1 : w2.cell? ⟨p, 1, none⟩ = some (.int .i64 l) := hm.c 1 _ rfl
      have f1 : w2.frozen? ⟨p, 1, none⟩ = false := hm.f 1
      have c2 : w2.cell? ⟨p, 2, none⟩ = some (.string row) := hm.c 2 _ rfl
      have f2 : w2.frozen? ⟨p, 2, none⟩ = false := hm.f 2
      clear hm hb2
      go_wp2_with fail
      refine (HL.out _).mono ?_
      rintro e w3 ⟨rfl, hb⟩
      have hm : LRow w3 p (lcs 1 l (row ++ ⟨#[48]⟩) x n r d wire s g) := LRow.on (HMW.out.set 2 _) hb
      have HM3 : Hid (LRow w3 p (lcs 1 l (row ++ ⟨#[48]⟩) x n r d wire s g)) := hm
      have HK3 : Hid (Kp p w w3) := Kp.join (Kp.set1 HKW.out) hb
      have cz0 : w3.cell? ⟨p, 0, none⟩ = some (.int .i64 1) := hm.c 0 _ rfl
      have fz0 : w3.frozen? ⟨p, 0, none⟩ = false := hm.f 0
      have cz1 : w3.cell? ⟨p, 1, none⟩ = some (.int .i64 l) := hm.c 1 _ rfl
      have fz1 : w3.frozen? ⟨p, 1, none⟩ = false := hm.f 1
      clear hm hb HL
      go_wp2
      go_ret
      exact ⟨_, _, rfl, EvAt.empty _ _, Kp.set1 (Kp.set1 HK3.out), (HM3.out.set 0 _).set 1 _⟩
    · show Calls Tryz.prog 59 #[bptr p, .string ⟨#[49]⟩] w fun e w' => Told w p [] (lcs 1 (l - 1) (row ++ ⟨#[49]⟩) x n r d wire s g) e w'
      go_enter Tryz.func59, Tryz.ntmps59
      go_wp2_with fail
      refine Lw.wp_region_quiet_below (by kernel_rfl) (by kernel_rfl) ?_
      repeat (first
        | go_big_quiet_skip
        | (go_big_quiet_want; go_big_quiet_op; go_big_quiet_on)
        | (go_big_quiet_want; go_big_quiet_op; apply Exists.intro; refine ⟨fun _ hb' => ?_, ?_⟩; (first
          | exact Lw.val_rfl _
          | (go_at_call 55; exact Lw.calls_below hb' (HN.out _ hb'))); go_big_quiet_on))
      refine wpQuiet_nil ?_
      intro w2 hb2
      have hm := HM.out.on hb2
      have HMW : Hid (LRow w2 p (lcs 1 l row x n r d wire s g)) := hm
      have HKW : Hid (Kp p w w2) := Kp.of hb2
      clear c0 c1 c2 f0 f1 f2 a0 a1 a2 b0 b1 b2
      have c0 : w2.cell? ⟨p, 0, none⟩ = some (.int .i64 1) := hm.c 0 _ rfl
      have f0 : w2.frozen? ⟨p, 0, none⟩ = false := hm.f 0
      have c1 : w2.cell? ⟨p, 1, none⟩ = some (.int .i64 l) := hm.c 1 _ rfl
      have f1 : w2.frozen? ⟨p, 1, none⟩ = false := hm.f 1
      have c2 : w2.cell? ⟨p, 2, none⟩ = some (.string row) := hm.c 2 _ rfl
      have f2 : w2.frozen? ⟨p, 2, none⟩ = false := hm.f 2
      clear hm hb2
      go_wp2_with fail
      refine (HL.out _).mono ?_
      rintro e w3 ⟨rfl, hb⟩
      have hm : LRow w3 p (lcs 1 l (row ++ ⟨#[49]⟩) x n r d wire s g) := LRow.on (HMW.out.set 2 _) hb
      have HM3 : Hid (LRow w3 p (lcs 1 l (row ++ ⟨#[49]⟩) x n r d wire s g)) := hm
      have HK3 : Hid (Kp p w w3) := Kp.join (Kp.set1 HKW.out) hb
      have cz0 : w3.cell? ⟨p, 0, none⟩ = some (.int .i64 1) := hm.c 0 _ rfl
      have fz0 : w3.frozen? ⟨p, 0, none⟩ = false := hm.f 0
      have cz1 : w3.cell? ⟨p, 1, none⟩ = some (.int .i64 l) := hm.c 1 _ rfl
      have fz1 : w3.frozen? ⟨p, 1, none⟩ = false := hm.f 1
      clear hm hb HL
      go_wp2
      go_ret
      exact ⟨_, _, rfl, EvAt.empty _ _, Kp.set1 (Kp.set1 HK3.out), (HM3.out.set 0 _).set 1 _⟩
set_option maxRecDepth 100000 in
set_option maxHeartbeats 4000000 in
theorem lsend_last (w : World) (p : Nat) (row : ByteArray) (x : Bool) (n : Nat) (r : Bool) (d wire : ByteArray) (s g : Int) (c : Bool) (hr : row.size ≤ 1000) (hc : Km.isC s g = true)
    (hN : ∀ w', Below w.heap.size w w' → Calls Tryz.prog 55 #[bptr p] w' fun e w'' => e = .returned (dV c) ∧ Below w'.heap.size w' w'') (h : LRow w p (lcs 1 1 row x n r d wire s g)) :
    Calls Tryz.prog 59 #[bptr p, .string ⟨#[if c then 49 else 48]⟩] w fun e w' => Told w p [⟨1, (x, n, r, d.data.toList), 0⟩] (lcs 5 3 ⟨#[]⟩ false 0 false ⟨#[]⟩ ⟨#[]⟩ (Km.sentS s g true) g) e w' := by
  have hlt := h.lt
  have HM : Hid (LRow w p (lcs 1 1 row x n r d wire s g)) := h
  have HL : Hid (∀ w, Calls Tryz.prog 63 #[phV 1 1] w fun e w' => e = .returned (phV 5 3) ∧ Below w.heap.size w w') := fun w => less_end 1 (Or.inl rfl) w
  have HN : Hid (∀ w', Below w.heap.size w w' → Calls Tryz.prog 55 #[bptr p] w' fun e w'' => e = .returned (dV c) ∧ Below w'.heap.size w' w'') := hN
  have HS : Hid (∀ w, Calls Tryz.prog 90 #[.agg #[.int .i64 s, .int .i64 g], .bool true] w fun e w' => e = .returned (.agg #[.int .i64 (Km.sentS s g true), .int .i64 g]) ∧ Below w.heap.size w w') := fun w => kSent_any s g true w (isC_wf hc).1 (isC_wf hc).2
  have HX : Hid (d = ⟨d.data.toList.toArray⟩) := (by show _ = _; simp)
  generalize Km.sentS s g true = S' at *
  have c0 : w.cell? ⟨p, 0, none⟩ = some (.int .i64 1) := h.c 0 _ rfl
  have f0 : w.frozen? ⟨p, 0, none⟩ = false := h.f 0
  have c1 : w.cell? ⟨p, 1, none⟩ = some (.int .i64 1) := h.c 1 _ rfl
  have f1 : w.frozen? ⟨p, 1, none⟩ = false := h.f 1
  have c2 : w.cell? ⟨p, 2, none⟩ = some (.string row) := h.c 2 _ rfl
  have f2 : w.frozen? ⟨p, 2, none⟩ = false := h.f 2
  have a0 : ∀ o, (w.alloc o).cell? ⟨p, 0, none⟩ = some (.int .i64 1) := fun o => (h.alloc o).c 0 _ rfl
  have b0 : ∀ o, (w.alloc o).frozen? ⟨p, 0, none⟩ = false := fun o => (h.alloc o).f 0
  have a1 : ∀ o, (w.alloc o).cell? ⟨p, 1, none⟩ = some (.int .i64 1) := fun o => (h.alloc o).c 1 _ rfl
  have b1 : ∀ o, (w.alloc o).frozen? ⟨p, 1, none⟩ = false := fun o => (h.alloc o).f 1
  have a2 : ∀ o, (w.alloc o).cell? ⟨p, 2, none⟩ = some (.string row) := fun o => (h.alloc o).c 2 _ rfl
  have b2 : ∀ o, (w.alloc o).frozen? ⟨p, 2, none⟩ = false := fun o => (h.alloc o).f 2
  clear h hN hc
  cases c
  · show Calls Tryz.prog 59 #[bptr p, .string ⟨#[48]⟩] w fun e w' => Told w p [⟨1, (x, n, r, d.data.toList), 0⟩] (lcs 5 3 ⟨#[]⟩ false 0 false ⟨#[]⟩ ⟨#[]⟩ S' g) e w'
    go_enter Tryz.func59, Tryz.ntmps59
    go_wp2_with fail
    refine Lw.wp_region_quiet_below (by kernel_rfl) (by kernel_rfl) ?_
    repeat (first
      | go_big_quiet_skip
      | (go_big_quiet_want; go_big_quiet_op; go_big_quiet_on)
      | (go_big_quiet_want; go_big_quiet_op; apply Exists.intro; refine ⟨fun _ hb' => ?_, ?_⟩; (first
        | exact Lw.val_rfl _
        | (go_at_call 55; exact Lw.calls_below hb' (HN.out _ hb'))); go_big_quiet_on))
    refine wpQuiet_nil ?_
    intro w2 hb2
    have hm := HM.out.on hb2
    have HM2 : Hid (LRow w2 p (lcs 1 1 row x n r d wire s g)) := hm
    have HK2 : Hid (Kp p w w2) := Kp.of hb2
    clear c0 c1 c2 f0 f1 f2 a0 a1 a2 b0 b1 b2
    have c0 : w2.cell? ⟨p, 0, none⟩ = some (.int .i64 1) := hm.c 0 _ rfl
    have f0 : w2.frozen? ⟨p, 0, none⟩ = false := hm.f 0
    have c1 : w2.cell? ⟨p, 1, none⟩ = some (.int .i64 1) := hm.c 1 _ rfl
    have f1 : w2.frozen? ⟨p, 1, none⟩ = false := hm.f 1
    have c2 : w2.cell? ⟨p, 2, none⟩ = some (.string row) := hm.c 2 _ rfl
    have f2 : w2.frozen? ⟨p, 2, none⟩ = false := hm.f 2
    clear hm hb2
    go_wp2_with fail
    refine (HL.out _).mono ?_
    rintro e w3 ⟨rfl, hb⟩
    have hm : LRow w3 p (lcs 1 1 (row ++ ⟨#[48]⟩) x n r d wire s g) := LRow.on (HM2.out.set 2 _) hb
    have HM3 : Hid (LRow w3 p (lcs 1 1 (row ++ ⟨#[48]⟩) x n r d wire s g)) := hm
    have HK3 : Hid (Kp p w w3) := Kp.join (Kp.set1 HK2.out) hb
    have hs3 : p < w3.heap.size := hm.lt
    have hps : ¬ p = w3.heap.size := Nat.ne_of_lt hs3
    have hsp : ¬ w3.heap.size = p := fun e => hps e.symm
    have HM4 : Hid (LRow ((w3.setCell ⟨p, 0, none⟩ (.int .i64 5)).setCell ⟨p, 1, none⟩ (.int .i64 3)) p (lcs 5 3 (row ++ ⟨#[48]⟩) x n r d wire s g)) := (hm.set 0 _).set 1 _
    have cz0 : w3.cell? ⟨p, 0, none⟩ = some (.int .i64 1) := hm.c 0 _ rfl
    have fz0 : w3.frozen? ⟨p, 0, none⟩ = false := hm.f 0
    have cz1 : w3.cell? ⟨p, 1, none⟩ = some (.int .i64 1) := hm.c 1 _ rfl
    have fz1 : w3.frozen? ⟨p, 1, none⟩ = false := hm.f 1
    have cz3 : w3.cell? ⟨p, 3, none⟩ = some (.bool x) := hm.c 3 _ rfl
    have fz3 : w3.frozen? ⟨p, 3, none⟩ = false := hm.f 3
    have cz4 : w3.cell? ⟨p, 4, none⟩ = some (.int .u32 n) := hm.c 4 _ rfl
    have fz4 : w3.frozen? ⟨p, 4, none⟩ = false := hm.f 4
    have cz5 : w3.cell? ⟨p, 5, none⟩ = some (.bool r) := hm.c 5 _ rfl
    have fz5 : w3.frozen? ⟨p, 5, none⟩ = false := hm.f 5
    have cz6 : w3.cell? ⟨p, 6, none⟩ = some (.string d) := hm.c 6 _ rfl
    have fz6 : w3.frozen? ⟨p, 6, none⟩ = false := hm.f 6
    have hm4 := HM4.out
    have az : ∀ o, (((w3.setCell ⟨p, 0, none⟩ (.int .i64 5)).setCell ⟨p, 1, none⟩ (.int .i64 3)).alloc o).cell? ⟨p, 3, none⟩ = some (.bool x) := fun o => (hm4.alloc o).c 3 _ rfl
    clear hm hm4 hb HL HM2 HK2 c0 c1 c2 f0 f1 f2
    go_wp2_with fail
    refine (ldrop_any _ p 5 3 (row ++ ⟨#[48]⟩) x n r d wire s g (HM4.out.alloc _)).mono ?_
    rintro e w4 ⟨rfl, h1, h2⟩
    have HM5 : Hid (LRow w4 p (lcs 5 3 (row ++ ⟨#[48]⟩) false 0 false ⟨#[]⟩ ⟨#[]⟩ s g)) := h1
    have HK5 : Hid (Kp p w w4) := (Kp.alloc (Kp.set1 (Kp.set1 HK3.out)) _).then h2
    have LF : Hid (Lies w4 w3.heap.size x n r d) := (h2.block w3.heap.size (by simp) hsp).trans (alloc_at (by simp))
    have cm2 : w4.cell? ⟨p, 2, none⟩ = some (.string (row ++ ⟨#[48]⟩)) := h1.c 2 _ rfl
    have fm2 : w4.frozen? ⟨p, 2, none⟩ = false := h1.f 2
    have cm8 : w4.cell? ⟨p, 8, none⟩ = some (.int .i64 s) := h1.c 8 _ rfl
    have fm8 : w4.frozen? ⟨p, 8, none⟩ = false := h1.f 8
    have cm9 : w4.cell? ⟨p, 9, none⟩ = some (.int .i64 g) := h1.c 9 _ rfl
    have fm9 : w4.frozen? ⟨p, 9, none⟩ = false := h1.f 9
    clear h1 h2 HM4 HM3 HK3 cz0 cz1 cz3 cz4 cz5 cz6 fz0 fz1 fz3 fz4 fz5 fz6 az
    go_wp2_with fail
    refine (HS.out _).mono ?_
    rintro e w5 ⟨rfl, hb⟩
    have hm : LRow w5 p (lcs 5 3 ⟨#[]⟩ false 0 false ⟨#[]⟩ ⟨#[]⟩ s g) := LRow.on (HM5.out.set 2 _) hb
    have HM6 : Hid (LRow w5 p (lcs 5 3 ⟨#[]⟩ false 0 false ⟨#[]⟩ ⟨#[]⟩ s g)) := hm
    have HK6 : Hid (Kp p w w5) := Kp.join (Kp.set1 HK5.out) hb
    have LF2 : Hid (Lies w5 w3.heap.size x n r d) := Lies.on ((heap_setCell_other _ _ _ _ (by simpa using hsp)).trans LF.out) hb
    have cq8 : w5.cell? ⟨p, 8, none⟩ = some (.int .i64 s) := hm.c 8 _ rfl
    have fq8 : w5.frozen? ⟨p, 8, none⟩ = false := hm.f 8
    have cq9 : w5.cell? ⟨p, 9, none⟩ = some (.int .i64 g) := hm.c 9 _ rfl
    have fq9 : w5.frozen? ⟨p, 9, none⟩ = false := hm.f 9
    have L0 := LF2.out.c0
    have L1 := LF2.out.c1
    have L2 := LF2.out.c2
    have L3 := LF2.out.c3
    clear hm hb HM5 HK5 LF cm8 cm9 fm8 fm9 cm2 fm2 HS
    go_wp2
    go_ret
    refine ⟨_, _, rfl, EvAt.one (v := ⟨1, (x, n, r, d.data.toList), 0⟩) ?_ HK6.out.size, Kp.alloc (Kp.set1 (Kp.set1 HK6.out)) _, ((HM6.out.set 8 _).set 9 _).alloc _⟩
    exact alloc_at (by simp)
  · show Calls Tryz.prog 59 #[bptr p, .string ⟨#[49]⟩] w fun e w' => Told w p [⟨1, (x, n, r, d.data.toList), 0⟩] (lcs 5 3 ⟨#[]⟩ false 0 false ⟨#[]⟩ ⟨#[]⟩ S' g) e w'
    go_enter Tryz.func59, Tryz.ntmps59
    go_wp2_with fail
    refine Lw.wp_region_quiet_below (by kernel_rfl) (by kernel_rfl) ?_
    repeat (first
      | go_big_quiet_skip
      | (go_big_quiet_want; go_big_quiet_op; go_big_quiet_on)
      | (go_big_quiet_want; go_big_quiet_op; apply Exists.intro; refine ⟨fun _ hb' => ?_, ?_⟩; (first
        | exact Lw.val_rfl _
        | (go_at_call 55; exact Lw.calls_below hb' (HN.out _ hb'))); go_big_quiet_on))
    refine wpQuiet_nil ?_
    intro w2 hb2
    have hm := HM.out.on hb2
    have HM2 : Hid (LRow w2 p (lcs 1 1 row x n r d wire s g)) := hm
    have HK2 : Hid (Kp p w w2) := Kp.of hb2
    clear c0 c1 c2 f0 f1 f2 a0 a1 a2 b0 b1 b2
    have c0 : w2.cell? ⟨p, 0, none⟩ = some (.int .i64 1) := hm.c 0 _ rfl
    have f0 : w2.frozen? ⟨p, 0, none⟩ = false := hm.f 0
    have c1 : w2.cell? ⟨p, 1, none⟩ = some (.int .i64 1) := hm.c 1 _ rfl
    have f1 : w2.frozen? ⟨p, 1, none⟩ = false := hm.f 1
    have c2 : w2.cell? ⟨p, 2, none⟩ = some (.string row) := hm.c 2 _ rfl
    have f2 : w2.frozen? ⟨p, 2, none⟩ = false := hm.f 2
    clear hm hb2
    go_wp2_with fail
    refine (HL.out _).mono ?_
    rintro e w3 ⟨rfl, hb⟩
    have hm : LRow w3 p (lcs 1 1 (row ++ ⟨#[49]⟩) x n r d wire s g) := LRow.on (HM2.out.set 2 _) hb
    have HM3 : Hid (LRow w3 p (lcs 1 1 (row ++ ⟨#[49]⟩) x n r d wire s g)) := hm
    have HK3 : Hid (Kp p w w3) := Kp.join (Kp.set1 HK2.out) hb
    have hs3 : p < w3.heap.size := hm.lt
    have hps : ¬ p = w3.heap.size := Nat.ne_of_lt hs3
    have hsp : ¬ w3.heap.size = p := fun e => hps e.symm
    have HM4 : Hid (LRow ((w3.setCell ⟨p, 0, none⟩ (.int .i64 5)).setCell ⟨p, 1, none⟩ (.int .i64 3)) p (lcs 5 3 (row ++ ⟨#[49]⟩) x n r d wire s g)) := (hm.set 0 _).set 1 _
    have cz0 : w3.cell? ⟨p, 0, none⟩ = some (.int .i64 1) := hm.c 0 _ rfl
    have fz0 : w3.frozen? ⟨p, 0, none⟩ = false := hm.f 0
    have cz1 : w3.cell? ⟨p, 1, none⟩ = some (.int .i64 1) := hm.c 1 _ rfl
    have fz1 : w3.frozen? ⟨p, 1, none⟩ = false := hm.f 1
    have cz3 : w3.cell? ⟨p, 3, none⟩ = some (.bool x) := hm.c 3 _ rfl
    have fz3 : w3.frozen? ⟨p, 3, none⟩ = false := hm.f 3
    have cz4 : w3.cell? ⟨p, 4, none⟩ = some (.int .u32 n) := hm.c 4 _ rfl
    have fz4 : w3.frozen? ⟨p, 4, none⟩ = false := hm.f 4
    have cz5 : w3.cell? ⟨p, 5, none⟩ = some (.bool r) := hm.c 5 _ rfl
    have fz5 : w3.frozen? ⟨p, 5, none⟩ = false := hm.f 5
    have cz6 : w3.cell? ⟨p, 6, none⟩ = some (.string d) := hm.c 6 _ rfl
    have fz6 : w3.frozen? ⟨p, 6, none⟩ = false := hm.f 6
    have hm4 := HM4.out
    have az : ∀ o, (((w3.setCell ⟨p, 0, none⟩ (.int .i64 5)).setCell ⟨p, 1, none⟩ (.int .i64 3)).alloc o).cell? ⟨p, 3, none⟩ = some (.bool x) := fun o => (hm4.alloc o).c 3 _ rfl
    clear hm hm4 hb HL HM2 HK2 c0 c1 c2 f0 f1 f2
    go_wp2_with fail
    refine (ldrop_any _ p 5 3 (row ++ ⟨#[49]⟩) x n r d wire s g (HM4.out.alloc _)).mono ?_
    rintro e w4 ⟨rfl, h1, h2⟩
    have HM5 : Hid (LRow w4 p (lcs 5 3 (row ++ ⟨#[49]⟩) false 0 false ⟨#[]⟩ ⟨#[]⟩ s g)) := h1
    have HK5 : Hid (Kp p w w4) := (Kp.alloc (Kp.set1 (Kp.set1 HK3.out)) _).then h2
    have LF : Hid (Lies w4 w3.heap.size x n r d) := (h2.block w3.heap.size (by simp) hsp).trans (alloc_at (by simp))
    have cm2 : w4.cell? ⟨p, 2, none⟩ = some (.string (row ++ ⟨#[49]⟩)) := h1.c 2 _ rfl
    have fm2 : w4.frozen? ⟨p, 2, none⟩ = false := h1.f 2
    have cm8 : w4.cell? ⟨p, 8, none⟩ = some (.int .i64 s) := h1.c 8 _ rfl
    have fm8 : w4.frozen? ⟨p, 8, none⟩ = false := h1.f 8
    have cm9 : w4.cell? ⟨p, 9, none⟩ = some (.int .i64 g) := h1.c 9 _ rfl
    have fm9 : w4.frozen? ⟨p, 9, none⟩ = false := h1.f 9
    clear h1 h2 HM4 HM3 HK3 cz0 cz1 cz3 cz4 cz5 cz6 fz0 fz1 fz3 fz4 fz5 fz6 az
    go_wp2_with fail
    refine (HS.out _).mono ?_
    rintro e w5 ⟨rfl, hb⟩
    have hm : LRow w5 p (lcs 5 3 ⟨#[]⟩ false 0 false ⟨#[]⟩ ⟨#[]⟩ s g) := LRow.on (HM5.out.set 2 _) hb
    have HM6 : Hid (LRow w5 p (lcs 5 3 ⟨#[]⟩ false 0 false ⟨#[]⟩ ⟨#[]⟩ s g)) := hm
    have HK6 : Hid (Kp p w w5) := Kp.join (Kp.set1 HK5.out) hb
    have LF2 : Hid (Lies w5 w3.heap.size x n r d) := Lies.on ((heap_setCell_other _ _ _ _ (by simpa using hsp)).trans LF.out) hb
    have cq8 : w5.cell? ⟨p, 8, none⟩ = some (.int .i64 s) := hm.c 8 _ rfl
    have fq8 : w5.frozen? ⟨p, 8, none⟩ = false := hm.f 8
    have cq9 : w5.cell? ⟨p, 9, none⟩ = some (.int .i64 g) := hm.c 9 _ rfl
    have fq9 : w5.frozen? ⟨p, 9, none⟩ = false := hm.f 9
    have L0 := LF2.out.c0
    have L1 := LF2.out.c1
    have L2 := LF2.out.c2
    have L3 := LF2.out.c3
    clear hm hb HM5 HK5 LF cm8 cm9 fm8 fm9 cm2 fm2 HS
    go_wp2
    go_ret
    refine ⟨_, _, rfl, EvAt.one (v := ⟨1, (x, n, r, d.data.toList), 0⟩) ?_ HK6.out.size, Kp.alloc (Kp.set1 (Kp.set1 HK6.out)) _, ((HM6.out.set 8 _).set 9 _).alloc _⟩
    exact alloc_at (by simp)
end Go.Proofs.YthkaekpoicodeaaGreatDoor
/- Package mac, over the landed code: hear. -/
namespace Go.Proofs.YthkaekpoicodeaaGreatDoor
open Go.RowKit
set_option linter.unusedVariables false
theorem cell_heap {w w' : World} {b : Nat} (h : w'.heap[b]? = w.heap[b]?) (k : Nat) : w'.cell? ⟨b, k, none⟩ = w.cell? ⟨b, k, none⟩ := by
  unfold World.cell?
  rw [h]
theorem tab_ne {w : World} {p : Nat} {k l : Int} {row : ByteArray} {x : Bool} {n : Int} {r : Bool} {d wire : ByteArray} {s g : Int} (hT : Tab w) (h : LRow w p (lcs k l row x n r d wire s g)) : ¬ 0 = p := by
  rintro rfl
  have h1 := (hT.2 1 (11, 11) rfl).1
  have h2 : w.cell? ⟨0, 2, none⟩ = some (.string row) := h.c 2 _ rfl
  rw [h2] at h1
  cases h1
theorem Tab.kp {w w' : World} {p : Nat} (h : Tab w) (hp : ¬ 0 = p) (hk : Kp p w w') : Tab w' :=
  ⟨Nat.lt_of_lt_of_le h.1 hk.size, fun k z hz => ⟨(cell_heap (hk.block _ h.1 hp) _).trans (h.2 k z hz).1, (cell_heap (hk.block _ h.1 hp) _).trans (h.2 k z hz).2⟩⟩
set_option maxRecDepth 100000 in
set_option maxHeartbeats 4000000 in
theorem lhear_end (w : World) (p : Nat) (row : ByteArray) (x : Bool) (n : Int) (r : Bool) (d wire : ByteArray) (s g : Int) (bit : ByteArray) (h : LRow w p (lcs 2 1 row x n r d wire s g)) :
    Calls Tryz.prog 61 #[bptr p, .string bit] w fun e w' => Told w p [] (lcs 5 3 ⟨#[]⟩ x n r d wire s g) e w' := by
  have hlt := h.lt
  have HM : Hid (LRow w p (lcs 2 1 row x n r d wire s g)) := h
  have HL : Hid (∀ w, Calls Tryz.prog 63 #[phV 2 1] w fun e w' => e = .returned (phV 5 3) ∧ Below w.heap.size w w') := fun w => less_end 2 (Or.inr (Or.inl rfl)) w
  have c0 : w.cell? ⟨p, 0, none⟩ = some (.int .i64 2) := h.c 0 _ rfl
  have f0 : w.frozen? ⟨p, 0, none⟩ = false := h.f 0
  have c1 : w.cell? ⟨p, 1, none⟩ = some (.int .i64 1) := h.c 1 _ rfl
  have f1 : w.frozen? ⟨p, 1, none⟩ = false := h.f 1
  have c2 : w.cell? ⟨p, 2, none⟩ = some (.string row) := h.c 2 _ rfl
  have f2 : w.frozen? ⟨p, 2, none⟩ = false := h.f 2
  have a0 : ∀ o, (w.alloc o).cell? ⟨p, 0, none⟩ = some (.int .i64 2) := fun o => (h.alloc o).c 0 _ rfl
  have b0 : ∀ o, (w.alloc o).frozen? ⟨p, 0, none⟩ = false := fun o => (h.alloc o).f 0
  have a1 : ∀ o, (w.alloc o).cell? ⟨p, 1, none⟩ = some (.int .i64 1) := fun o => (h.alloc o).c 1 _ rfl
  have b1 : ∀ o, (w.alloc o).frozen? ⟨p, 1, none⟩ = false := fun o => (h.alloc o).f 1
  have a2 : ∀ o, (w.alloc o).cell? ⟨p, 2, none⟩ = some (.string row) := fun o => (h.alloc o).c 2 _ rfl
  have b2 : ∀ o, (w.alloc o).frozen? ⟨p, 2, none⟩ = false := fun o => (h.alloc o).f 2
  clear h
  go_enter Tryz.func61, Tryz.ntmps61
  go_wp2_with fail
  refine (HL.out _).mono ?_
  rintro e w2 ⟨rfl, hb⟩
  have hm := HM.out.on hb
  have HM2 : Hid (LRow w2 p (lcs 2 1 row x n r d wire s g)) := hm
  have HK2 : Hid (Kp p w w2) := Kp.of hb
  clear c0 c1 c2 f0 f1 f2 a0 a1 a2 b0 b1 b2
  have c0 : w2.cell? ⟨p, 0, none⟩ = some (.int .i64 2) := hm.c 0 _ rfl
  have f0 : w2.frozen? ⟨p, 0, none⟩ = false := hm.f 0
  have c1 : w2.cell? ⟨p, 1, none⟩ = some (.int .i64 1) := hm.c 1 _ rfl
  have f1 : w2.frozen? ⟨p, 1, none⟩ = false := hm.f 1
  have c2 : w2.cell? ⟨p, 2, none⟩ = some (.string row) := hm.c 2 _ rfl
  have f2 : w2.frozen? ⟨p, 2, none⟩ = false := hm.f 2
  clear hm hb HM HL
  go_wp2
  go_ret
  exact ⟨_, _, rfl, EvAt.empty _ _, Kp.set1 (Kp.set1 (Kp.set1 HK2.out)), ((HM2.out.set 2 _).set 0 _).set 1 _⟩
set_option maxRecDepth 100000 in
set_option maxHeartbeats 4000000 in
theorem lhear_on (w : World) (p : Nat) (l : Int) (row : ByteArray) (x : Bool) (n : Int) (r : Bool) (d wire : ByteArray) (s g : Int) (c : UInt8) (X : Bool) (N : Nat) (R : Bool) (D : ByteArray) (lg er : Nat) (hl : (l == 1) = false) (hr : row.size ≤ 1000) (hlg : lg ≤ 2000) (her : er ≤ 1000) (hT : Tab w) (he : er = 0) (hle : row.size + 1 ≤ lg) (hne : lg ≠ row.size + 2)
    (hD : ∀ w, Tab w → Calls Tryz.prog 91 #[.string (row ++ ⟨#[c]⟩ ++ ⟨#[49, 49, 49, 49, 49, 49, 49, 49, 49]⟩)] w fun e w' => e = .returned (.tuple #[.agg #[.bool X, .int .u32 (N : Int), .bool R, .string D], .int .i64 (lg : Int), .int .i64 (er : Int)]) ∧ Below w.heap.size w w') (h : LRow w p (lcs 2 l row x n r d wire s g)) :
    Calls Tryz.prog 61 #[bptr p, .string ⟨#[c]⟩] w fun e w' => Told w p ([]) (lcs 2 ((lg : Int) - ((row.size : Int) + 1)) (row ++ ⟨#[c]⟩) x n r d wire s g) e w' := by
  have hlt := h.lt
  have HM : Hid (LRow w p (lcs 2 l row x n r d wire s g)) := h
  have HG : Hid (¬ 0 = p) := tab_ne hT h
  have HT : Hid (Tab w) := hT
  have HD : Hid (∀ w, Tab w → Calls Tryz.prog 91 #[.string (row ++ ⟨#[c]⟩ ++ ⟨#[49, 49, 49, 49, 49, 49, 49, 49, 49]⟩)] w fun e w' => e = .returned (.tuple #[.agg #[.bool X, .int .u32 (N : Int), .bool R, .string D], .int .i64 (lg : Int), .int .i64 (er : Int)]) ∧ Below w.heap.size w w') := hD
  have c0 : w.cell? ⟨p, 0, none⟩ = some (.int .i64 2) := h.c 0 _ rfl
  have f0 : w.frozen? ⟨p, 0, none⟩ = false := h.f 0
  have c1 : w.cell? ⟨p, 1, none⟩ = some (.int .i64 l) := h.c 1 _ rfl
  have f1 : w.frozen? ⟨p, 1, none⟩ = false := h.f 1
  have c2 : w.cell? ⟨p, 2, none⟩ = some (.string row) := h.c 2 _ rfl
  have f2 : w.frozen? ⟨p, 2, none⟩ = false := h.f 2
  have a0 : ∀ o, (w.alloc o).cell? ⟨p, 0, none⟩ = some (.int .i64 2) := fun o => (h.alloc o).c 0 _ rfl
  have b0 : ∀ o, (w.alloc o).frozen? ⟨p, 0, none⟩ = false := fun o => (h.alloc o).f 0
  have a1 : ∀ o, (w.alloc o).cell? ⟨p, 1, none⟩ = some (.int .i64 l) := fun o => (h.alloc o).c 1 _ rfl
  have b1 : ∀ o, (w.alloc o).frozen? ⟨p, 1, none⟩ = false := fun o => (h.alloc o).f 1
  have a2 : ∀ o, (w.alloc o).cell? ⟨p, 2, none⟩ = some (.string row) := fun o => (h.alloc o).c 2 _ rfl
  have b2 : ∀ o, (w.alloc o).frozen? ⟨p, 2, none⟩ = false := fun o => (h.alloc o).f 2
  have hz : (row ++ ⟨#[c]⟩ : ByteArray).size = row.size + 1 := by rw [ByteArray.size_append]; rfl
  subst he
  have hne2 : ((lg : Int) - ((row.size : Int) + 1) == 1) = false := by simp; omega
  clear h hD hT
  go_enter Tryz.func61, Tryz.ntmps61
  go_wp2_with fail
  have HM1 : Hid (LRow (w.setCell ⟨p, 2, none⟩ (.string (row ++ ⟨#[c]⟩))) p (lcs 2 l (row ++ ⟨#[c]⟩) x n r d wire s g)) := HM.out.set 2 _
  have HK1 : Hid (Kp p w (w.setCell ⟨p, 2, none⟩ (.string (row ++ ⟨#[c]⟩)))) := Kp.set1 (Kept.refl _ w)
  refine (HD.out _ (HT.out.kp HG.out HK1.out)).mono ?_
  rintro e w2 ⟨rfl, hb⟩
  have hm := HM1.out.on hb
  have HM2 : Hid (LRow w2 p (lcs 2 l (row ++ ⟨#[c]⟩) x n r d wire s g)) := hm
  have HK2 : Hid (Kp p w w2) := HK1.out.join hb
  clear c0 c1 c2 f0 f1 f2 a0 a1 a2 b0 b1 b2 HM HM1 HK1 hb HT HD HG
  generalize hrow : row ++ ⟨#[c]⟩ = row2 at *
  have HW : Hid (row ++ ⟨#[c]⟩ = row2) := hrow
  clear hrow
  have hp2 : p < w2.heap.size := hm.lt
  have hpw : ¬ p = w2.heap.size := Nat.ne_of_lt hp2
  have hwp : ¬ w2.heap.size = p := fun e => hpw e.symm
  have c0 : w2.cell? ⟨p, 0, none⟩ = some (.int .i64 2) := hm.c 0 _ rfl
  have f0 : w2.frozen? ⟨p, 0, none⟩ = false := hm.f 0
  have c1 : w2.cell? ⟨p, 1, none⟩ = some (.int .i64 l) := hm.c 1 _ rfl
  have f1 : w2.frozen? ⟨p, 1, none⟩ = false := hm.f 1
  have c2 : w2.cell? ⟨p, 2, none⟩ = some (.string row2) := hm.c 2 _ rfl
  have f2 : w2.frozen? ⟨p, 2, none⟩ = false := hm.f 2
  have c8 : w2.cell? ⟨p, 8, none⟩ = some (.int .i64 s) := hm.c 8 _ rfl
  have f8 : w2.frozen? ⟨p, 8, none⟩ = false := hm.f 8
  have c9 : w2.cell? ⟨p, 9, none⟩ = some (.int .i64 g) := hm.c 9 _ rfl
  have f9 : w2.frozen? ⟨p, 9, none⟩ = false := hm.f 9
  have a0 : ∀ o, (w2.alloc o).cell? ⟨p, 0, none⟩ = some (.int .i64 2) := fun o => (hm.alloc o).c 0 _ rfl
  have b0 : ∀ o, (w2.alloc o).frozen? ⟨p, 0, none⟩ = false := fun o => (hm.alloc o).f 0
  have a1 : ∀ o, (w2.alloc o).cell? ⟨p, 1, none⟩ = some (.int .i64 l) := fun o => (hm.alloc o).c 1 _ rfl
  have b1 : ∀ o, (w2.alloc o).frozen? ⟨p, 1, none⟩ = false := fun o => (hm.alloc o).f 1
  have a2 : ∀ o, (w2.alloc o).cell? ⟨p, 2, none⟩ = some (.string row2) := fun o => (hm.alloc o).c 2 _ rfl
  have b2 : ∀ o, (w2.alloc o).frozen? ⟨p, 2, none⟩ = false := fun o => (hm.alloc o).f 2
  have a8 : ∀ o, (w2.alloc o).cell? ⟨p, 8, none⟩ = some (.int .i64 s) := fun o => (hm.alloc o).c 8 _ rfl
  have b8 : ∀ o, (w2.alloc o).frozen? ⟨p, 8, none⟩ = false := fun o => (hm.alloc o).f 8
  have a9 : ∀ o, (w2.alloc o).cell? ⟨p, 9, none⟩ = some (.int .i64 g) := fun o => (hm.alloc o).c 9 _ rfl
  have b9 : ∀ o, (w2.alloc o).frozen? ⟨p, 9, none⟩ = false := fun o => (hm.alloc o).f 9
  clear hm
  go_wp2
  go_ret
  rw [HW.out]
  exact ⟨_, _, rfl, EvAt.empty _ _, Kp.alloc (Kp.set1 HK2.out) _, (HM2.out.set 1 _).alloc _⟩
set_option maxRecDepth 100000 in
set_option maxHeartbeats 4000000 in
theorem lhear_wait (w : World) (p : Nat) (l : Int) (row : ByteArray) (x : Bool) (n : Int) (r : Bool) (d wire : ByteArray) (s g : Int) (c : UInt8) (X : Bool) (N : Nat) (R : Bool) (D : ByteArray) (lg er : Nat) (hl : (l == 1) = false) (hr : row.size ≤ 1000) (hlg : lg ≤ 2000) (her : er ≤ 1000) (hT : Tab w) (he : (er == 0) = false) (hle : row.size + 1 ≤ lg)
    (hD : ∀ w, Tab w → Calls Tryz.prog 91 #[.string (row ++ ⟨#[c]⟩ ++ ⟨#[49, 49, 49, 49, 49, 49, 49, 49, 49]⟩)] w fun e w' => e = .returned (.tuple #[.agg #[.bool X, .int .u32 (N : Int), .bool R, .string D], .int .i64 (lg : Int), .int .i64 (er : Int)]) ∧ Below w.heap.size w w') (h : LRow w p (lcs 2 l row x n r d wire s g)) :
    Calls Tryz.prog 61 #[bptr p, .string ⟨#[c]⟩] w fun e w' => Told w p ([]) (lcs 2 l (row ++ ⟨#[c]⟩) x n r d wire s g) e w' := by
  have hlt := h.lt
  have HM : Hid (LRow w p (lcs 2 l row x n r d wire s g)) := h
  have HG : Hid (¬ 0 = p) := tab_ne hT h
  have HT : Hid (Tab w) := hT
  have HD : Hid (∀ w, Tab w → Calls Tryz.prog 91 #[.string (row ++ ⟨#[c]⟩ ++ ⟨#[49, 49, 49, 49, 49, 49, 49, 49, 49]⟩)] w fun e w' => e = .returned (.tuple #[.agg #[.bool X, .int .u32 (N : Int), .bool R, .string D], .int .i64 (lg : Int), .int .i64 (er : Int)]) ∧ Below w.heap.size w w') := hD
  have c0 : w.cell? ⟨p, 0, none⟩ = some (.int .i64 2) := h.c 0 _ rfl
  have f0 : w.frozen? ⟨p, 0, none⟩ = false := h.f 0
  have c1 : w.cell? ⟨p, 1, none⟩ = some (.int .i64 l) := h.c 1 _ rfl
  have f1 : w.frozen? ⟨p, 1, none⟩ = false := h.f 1
  have c2 : w.cell? ⟨p, 2, none⟩ = some (.string row) := h.c 2 _ rfl
  have f2 : w.frozen? ⟨p, 2, none⟩ = false := h.f 2
  have a0 : ∀ o, (w.alloc o).cell? ⟨p, 0, none⟩ = some (.int .i64 2) := fun o => (h.alloc o).c 0 _ rfl
  have b0 : ∀ o, (w.alloc o).frozen? ⟨p, 0, none⟩ = false := fun o => (h.alloc o).f 0
  have a1 : ∀ o, (w.alloc o).cell? ⟨p, 1, none⟩ = some (.int .i64 l) := fun o => (h.alloc o).c 1 _ rfl
  have b1 : ∀ o, (w.alloc o).frozen? ⟨p, 1, none⟩ = false := fun o => (h.alloc o).f 1
  have a2 : ∀ o, (w.alloc o).cell? ⟨p, 2, none⟩ = some (.string row) := fun o => (h.alloc o).c 2 _ rfl
  have b2 : ∀ o, (w.alloc o).frozen? ⟨p, 2, none⟩ = false := fun o => (h.alloc o).f 2
  have hz : (row ++ ⟨#[c]⟩ : ByteArray).size = row.size + 1 := by rw [ByteArray.size_append]; rfl
  have he2 : ((er : Int) == 0) = false := by simpa using he
  clear h hD hT
  go_enter Tryz.func61, Tryz.ntmps61
  go_wp2_with fail
  have HM1 : Hid (LRow (w.setCell ⟨p, 2, none⟩ (.string (row ++ ⟨#[c]⟩))) p (lcs 2 l (row ++ ⟨#[c]⟩) x n r d wire s g)) := HM.out.set 2 _
  have HK1 : Hid (Kp p w (w.setCell ⟨p, 2, none⟩ (.string (row ++ ⟨#[c]⟩)))) := Kp.set1 (Kept.refl _ w)
  refine (HD.out _ (HT.out.kp HG.out HK1.out)).mono ?_
  rintro e w2 ⟨rfl, hb⟩
  have hm := HM1.out.on hb
  have HM2 : Hid (LRow w2 p (lcs 2 l (row ++ ⟨#[c]⟩) x n r d wire s g)) := hm
  have HK2 : Hid (Kp p w w2) := HK1.out.join hb
  clear c0 c1 c2 f0 f1 f2 a0 a1 a2 b0 b1 b2 HM HM1 HK1 hb HT HD HG
  generalize hrow : row ++ ⟨#[c]⟩ = row2 at *
  have HW : Hid (row ++ ⟨#[c]⟩ = row2) := hrow
  clear hrow
  have hp2 : p < w2.heap.size := hm.lt
  have hpw : ¬ p = w2.heap.size := Nat.ne_of_lt hp2
  have hwp : ¬ w2.heap.size = p := fun e => hpw e.symm
  have c0 : w2.cell? ⟨p, 0, none⟩ = some (.int .i64 2) := hm.c 0 _ rfl
  have f0 : w2.frozen? ⟨p, 0, none⟩ = false := hm.f 0
  have c1 : w2.cell? ⟨p, 1, none⟩ = some (.int .i64 l) := hm.c 1 _ rfl
  have f1 : w2.frozen? ⟨p, 1, none⟩ = false := hm.f 1
  have c2 : w2.cell? ⟨p, 2, none⟩ = some (.string row2) := hm.c 2 _ rfl
  have f2 : w2.frozen? ⟨p, 2, none⟩ = false := hm.f 2
  have c8 : w2.cell? ⟨p, 8, none⟩ = some (.int .i64 s) := hm.c 8 _ rfl
  have f8 : w2.frozen? ⟨p, 8, none⟩ = false := hm.f 8
  have c9 : w2.cell? ⟨p, 9, none⟩ = some (.int .i64 g) := hm.c 9 _ rfl
  have f9 : w2.frozen? ⟨p, 9, none⟩ = false := hm.f 9
  have a0 : ∀ o, (w2.alloc o).cell? ⟨p, 0, none⟩ = some (.int .i64 2) := fun o => (hm.alloc o).c 0 _ rfl
  have b0 : ∀ o, (w2.alloc o).frozen? ⟨p, 0, none⟩ = false := fun o => (hm.alloc o).f 0
  have a1 : ∀ o, (w2.alloc o).cell? ⟨p, 1, none⟩ = some (.int .i64 l) := fun o => (hm.alloc o).c 1 _ rfl
  have b1 : ∀ o, (w2.alloc o).frozen? ⟨p, 1, none⟩ = false := fun o => (hm.alloc o).f 1
  have a2 : ∀ o, (w2.alloc o).cell? ⟨p, 2, none⟩ = some (.string row2) := fun o => (hm.alloc o).c 2 _ rfl
  have b2 : ∀ o, (w2.alloc o).frozen? ⟨p, 2, none⟩ = false := fun o => (hm.alloc o).f 2
  have a8 : ∀ o, (w2.alloc o).cell? ⟨p, 8, none⟩ = some (.int .i64 s) := fun o => (hm.alloc o).c 8 _ rfl
  have b8 : ∀ o, (w2.alloc o).frozen? ⟨p, 8, none⟩ = false := fun o => (hm.alloc o).f 8
  have a9 : ∀ o, (w2.alloc o).cell? ⟨p, 9, none⟩ = some (.int .i64 g) := fun o => (hm.alloc o).c 9 _ rfl
  have b9 : ∀ o, (w2.alloc o).frozen? ⟨p, 9, none⟩ = false := fun o => (hm.alloc o).f 9
  clear hm
  go_wp2
  go_ret
  rw [HW.out]
  exact ⟨_, _, rfl, EvAt.empty _ _, Kp.alloc HK2.out _, HM2.out.alloc _⟩
set_option maxRecDepth 100000 in
set_option maxHeartbeats 4000000 in
theorem lhear_bad (w : World) (p : Nat) (l : Int) (row : ByteArray) (x : Bool) (n : Int) (r : Bool) (d wire : ByteArray) (s g : Int) (c : UInt8) (X : Bool) (N : Nat) (R : Bool) (D : ByteArray) (lg er : Nat) (hl : (l == 1) = false) (hr : row.size ≤ 1000) (hlg : lg ≤ 2000) (her : er ≤ 1000) (hT : Tab w) (he : (er == 0) = false) (hle : lg < row.size + 1) (hc : Km.isC s g = true)
    (hD : ∀ w, Tab w → Calls Tryz.prog 91 #[.string (row ++ ⟨#[c]⟩ ++ ⟨#[49, 49, 49, 49, 49, 49, 49, 49, 49]⟩)] w fun e w' => e = .returned (.tuple #[.agg #[.bool X, .int .u32 (N : Int), .bool R, .string D], .int .i64 (lg : Int), .int .i64 (er : Int)]) ∧ Below w.heap.size w w') (h : LRow w p (lcs 2 l row x n r d wire s g)) :
    Calls Tryz.prog 61 #[bptr p, .string ⟨#[c]⟩] w fun e w' => Told w p (fev s ⟨5, Cm.noF, er⟩) (lcs (fkl s).1 (fkl s).2 ⟨#[]⟩ x n r d wire s (Km.gotG s g false)) e w' := by
  have hlt := h.lt
  have HM : Hid (LRow w p (lcs 2 l row x n r d wire s g)) := h
  have HG : Hid (¬ 0 = p) := tab_ne hT h
  have HT : Hid (Tab w) := hT
  have HD : Hid (∀ w, Tab w → Calls Tryz.prog 91 #[.string (row ++ ⟨#[c]⟩ ++ ⟨#[49, 49, 49, 49, 49, 49, 49, 49, 49]⟩)] w fun e w' => e = .returned (.tuple #[.agg #[.bool X, .int .u32 (N : Int), .bool R, .string D], .int .i64 (lg : Int), .int .i64 (er : Int)]) ∧ Below w.heap.size w w') := hD
  have c0 : w.cell? ⟨p, 0, none⟩ = some (.int .i64 2) := h.c 0 _ rfl
  have f0 : w.frozen? ⟨p, 0, none⟩ = false := h.f 0
  have c1 : w.cell? ⟨p, 1, none⟩ = some (.int .i64 l) := h.c 1 _ rfl
  have f1 : w.frozen? ⟨p, 1, none⟩ = false := h.f 1
  have c2 : w.cell? ⟨p, 2, none⟩ = some (.string row) := h.c 2 _ rfl
  have f2 : w.frozen? ⟨p, 2, none⟩ = false := h.f 2
  have a0 : ∀ o, (w.alloc o).cell? ⟨p, 0, none⟩ = some (.int .i64 2) := fun o => (h.alloc o).c 0 _ rfl
  have b0 : ∀ o, (w.alloc o).frozen? ⟨p, 0, none⟩ = false := fun o => (h.alloc o).f 0
  have a1 : ∀ o, (w.alloc o).cell? ⟨p, 1, none⟩ = some (.int .i64 l) := fun o => (h.alloc o).c 1 _ rfl
  have b1 : ∀ o, (w.alloc o).frozen? ⟨p, 1, none⟩ = false := fun o => (h.alloc o).f 1
  have a2 : ∀ o, (w.alloc o).cell? ⟨p, 2, none⟩ = some (.string row) := fun o => (h.alloc o).c 2 _ rfl
  have b2 : ∀ o, (w.alloc o).frozen? ⟨p, 2, none⟩ = false := fun o => (h.alloc o).f 2
  have hz : (row ++ ⟨#[c]⟩ : ByteArray).size = row.size + 1 := by rw [ByteArray.size_append]; rfl
  have he2 : ((er : Int) == 0) = false := by simpa using he
  have HS : Hid (∀ w, Calls Tryz.prog 92 #[.agg #[.int .i64 s, .int .i64 g], .bool false] w fun e w' => e = .returned (.agg #[.int .i64 s, .int .i64 (Km.gotG s g false)]) ∧ Below w.heap.size w w') := fun w => kGot_any s g false w (isC_wf hc).1 (isC_wf hc).2
  have hc2 : Hid (Km.isC s (Km.gotG s g false) = true) := Mm.isC_got false hc
  generalize Km.gotG s g false = G' at *
  clear h hD hT
  go_enter Tryz.func61, Tryz.ntmps61
  go_wp2_with fail
  have HM1 : Hid (LRow (w.setCell ⟨p, 2, none⟩ (.string (row ++ ⟨#[c]⟩))) p (lcs 2 l (row ++ ⟨#[c]⟩) x n r d wire s g)) := HM.out.set 2 _
  have HK1 : Hid (Kp p w (w.setCell ⟨p, 2, none⟩ (.string (row ++ ⟨#[c]⟩)))) := Kp.set1 (Kept.refl _ w)
  refine (HD.out _ (HT.out.kp HG.out HK1.out)).mono ?_
  rintro e w2 ⟨rfl, hb⟩
  have hm := HM1.out.on hb
  have HM2 : Hid (LRow w2 p (lcs 2 l (row ++ ⟨#[c]⟩) x n r d wire s g)) := hm
  have HK2 : Hid (Kp p w w2) := HK1.out.join hb
  clear c0 c1 c2 f0 f1 f2 a0 a1 a2 b0 b1 b2 HM HM1 HK1 hb HT HD HG
  generalize hrow : row ++ ⟨#[c]⟩ = row2 at *
  have HW : Hid (row ++ ⟨#[c]⟩ = row2) := hrow
  clear hrow
  have hp2 : p < w2.heap.size := hm.lt
  have hpw : ¬ p = w2.heap.size := Nat.ne_of_lt hp2
  have hwp : ¬ w2.heap.size = p := fun e => hpw e.symm
  have c0 : w2.cell? ⟨p, 0, none⟩ = some (.int .i64 2) := hm.c 0 _ rfl
  have f0 : w2.frozen? ⟨p, 0, none⟩ = false := hm.f 0
  have c1 : w2.cell? ⟨p, 1, none⟩ = some (.int .i64 l) := hm.c 1 _ rfl
  have f1 : w2.frozen? ⟨p, 1, none⟩ = false := hm.f 1
  have c2 : w2.cell? ⟨p, 2, none⟩ = some (.string row2) := hm.c 2 _ rfl
  have f2 : w2.frozen? ⟨p, 2, none⟩ = false := hm.f 2
  have c8 : w2.cell? ⟨p, 8, none⟩ = some (.int .i64 s) := hm.c 8 _ rfl
  have f8 : w2.frozen? ⟨p, 8, none⟩ = false := hm.f 8
  have c9 : w2.cell? ⟨p, 9, none⟩ = some (.int .i64 g) := hm.c 9 _ rfl
  have f9 : w2.frozen? ⟨p, 9, none⟩ = false := hm.f 9
  have a0 : ∀ o, (w2.alloc o).cell? ⟨p, 0, none⟩ = some (.int .i64 2) := fun o => (hm.alloc o).c 0 _ rfl
  have b0 : ∀ o, (w2.alloc o).frozen? ⟨p, 0, none⟩ = false := fun o => (hm.alloc o).f 0
  have a1 : ∀ o, (w2.alloc o).cell? ⟨p, 1, none⟩ = some (.int .i64 l) := fun o => (hm.alloc o).c 1 _ rfl
  have b1 : ∀ o, (w2.alloc o).frozen? ⟨p, 1, none⟩ = false := fun o => (hm.alloc o).f 1
  have a2 : ∀ o, (w2.alloc o).cell? ⟨p, 2, none⟩ = some (.string row2) := fun o => (hm.alloc o).c 2 _ rfl
  have b2 : ∀ o, (w2.alloc o).frozen? ⟨p, 2, none⟩ = false := fun o => (hm.alloc o).f 2
  have a8 : ∀ o, (w2.alloc o).cell? ⟨p, 8, none⟩ = some (.int .i64 s) := fun o => (hm.alloc o).c 8 _ rfl
  have b8 : ∀ o, (w2.alloc o).frozen? ⟨p, 8, none⟩ = false := fun o => (hm.alloc o).f 8
  have a9 : ∀ o, (w2.alloc o).cell? ⟨p, 9, none⟩ = some (.int .i64 g) := fun o => (hm.alloc o).c 9 _ rfl
  have b9 : ∀ o, (w2.alloc o).frozen? ⟨p, 9, none⟩ = false := fun o => (hm.alloc o).f 9
  clear hm
  go_wp2_with fail
  refine (HS.out _).mono ?_
  rintro e w3 ⟨rfl, hb⟩
  have hm : LRow w3 p (lcs 2 l row2 x n r d wire s g) := LRow.on (HM2.out.alloc _) hb
  have HM3 : Hid (LRow w3 p (lcs 2 l row2 x n r d wire s g)) := hm
  have HK3 : Hid (Kp p w w3) := Kp.join (Kp.alloc HK2.out _) hb
  clear c0 c1 c2 c8 c9 f0 f1 f2 f8 f9 a0 a1 a2 a8 a9 b0 b1 b2 b8 b9
  have c8 : w3.cell? ⟨p, 8, none⟩ = some (.int .i64 s) := hm.c 8 _ rfl
  have f8 : w3.frozen? ⟨p, 8, none⟩ = false := hm.f 8
  have c9 : w3.cell? ⟨p, 9, none⟩ = some (.int .i64 g) := hm.c 9 _ rfl
  have f9 : w3.frozen? ⟨p, 9, none⟩ = false := hm.f 9
  clear hm hb HS HM2 HK2
  go_wp2_with fail
  refine (lfault_any _ p 2 l row2 x n r d wire s G' ⟨5, Cm.noF, er⟩ ⟨#[]⟩ rfl hc2.out ((HM3.out.set 8 _).set 9 _)).mono ?_
  rintro e w4 hR
  have HR : Hid (Told w p (fev s ⟨5, Cm.noF, er⟩) (lcs (fkl s).1 (fkl s).2 ⟨#[]⟩ x n r d wire s G') e w4) := Told.from (Kp.set1 (Kp.set1 HK3.out)) hR
  obtain ⟨sl, cap, rfl, hE, hk, hm⟩ := hR
  clear hE hk hm
  go_wp2
  go_ret
  exact HR.out
set_option maxRecDepth 100000 in
set_option maxHeartbeats 4000000 in
theorem lhear_got (w : World) (p : Nat) (l : Int) (row : ByteArray) (x : Bool) (n : Int) (r : Bool) (d wire : ByteArray) (s g : Int) (c : UInt8) (X : Bool) (N : Nat) (R : Bool) (D : ByteArray) (lg er : Nat) (hl : (l == 1) = false) (hr : row.size ≤ 1000) (hlg : lg ≤ 2000) (her : er ≤ 1000) (hT : Tab w) (he : er = 0) (hle : lg = row.size + 2) (hc : Km.isC s g = true)
    (hD : ∀ w, Tab w → Calls Tryz.prog 91 #[.string (row ++ ⟨#[c]⟩ ++ ⟨#[49, 49, 49, 49, 49, 49, 49, 49, 49]⟩)] w fun e w' => e = .returned (.tuple #[.agg #[.bool X, .int .u32 (N : Int), .bool R, .string D], .int .i64 (lg : Int), .int .i64 (er : Int)]) ∧ Below w.heap.size w w') (h : LRow w p (lcs 2 l row x n r d wire s g)) :
    Calls Tryz.prog 61 #[bptr p, .string ⟨#[c]⟩] w fun e w' => Told w p ([⟨2, (X, N, R, D.data.toList), 0⟩]) (lcs 2 1 (row ++ ⟨#[c]⟩) x n r d wire s (Km.gotG s g true)) e w' := by
  have hlt := h.lt
  have HM : Hid (LRow w p (lcs 2 l row x n r d wire s g)) := h
  have HG : Hid (¬ 0 = p) := tab_ne hT h
  have HT : Hid (Tab w) := hT
  have HD : Hid (∀ w, Tab w → Calls Tryz.prog 91 #[.string (row ++ ⟨#[c]⟩ ++ ⟨#[49, 49, 49, 49, 49, 49, 49, 49, 49]⟩)] w fun e w' => e = .returned (.tuple #[.agg #[.bool X, .int .u32 (N : Int), .bool R, .string D], .int .i64 (lg : Int), .int .i64 (er : Int)]) ∧ Below w.heap.size w w') := hD
  have c0 : w.cell? ⟨p, 0, none⟩ = some (.int .i64 2) := h.c 0 _ rfl
  have f0 : w.frozen? ⟨p, 0, none⟩ = false := h.f 0
  have c1 : w.cell? ⟨p, 1, none⟩ = some (.int .i64 l) := h.c 1 _ rfl
  have f1 : w.frozen? ⟨p, 1, none⟩ = false := h.f 1
  have c2 : w.cell? ⟨p, 2, none⟩ = some (.string row) := h.c 2 _ rfl
  have f2 : w.frozen? ⟨p, 2, none⟩ = false := h.f 2
  have a0 : ∀ o, (w.alloc o).cell? ⟨p, 0, none⟩ = some (.int .i64 2) := fun o => (h.alloc o).c 0 _ rfl
  have b0 : ∀ o, (w.alloc o).frozen? ⟨p, 0, none⟩ = false := fun o => (h.alloc o).f 0
  have a1 : ∀ o, (w.alloc o).cell? ⟨p, 1, none⟩ = some (.int .i64 l) := fun o => (h.alloc o).c 1 _ rfl
  have b1 : ∀ o, (w.alloc o).frozen? ⟨p, 1, none⟩ = false := fun o => (h.alloc o).f 1
  have a2 : ∀ o, (w.alloc o).cell? ⟨p, 2, none⟩ = some (.string row) := fun o => (h.alloc o).c 2 _ rfl
  have b2 : ∀ o, (w.alloc o).frozen? ⟨p, 2, none⟩ = false := fun o => (h.alloc o).f 2
  have hz : (row ++ ⟨#[c]⟩ : ByteArray).size = row.size + 1 := by rw [ByteArray.size_append]; rfl
  subst he
  have hne2 : ((lg : Int) - ((row.size : Int) + 1) == 1) = true := by simp; omega
  have hone : Hid (((row.size : Int) + 2 - ((row.size : Int) + 1)) = 1) := (by show _ = _; omega)
  have HS : Hid (∀ w, Calls Tryz.prog 92 #[.agg #[.int .i64 s, .int .i64 g], .bool true] w fun e w' => e = .returned (.agg #[.int .i64 s, .int .i64 (Km.gotG s g true)]) ∧ Below w.heap.size w w') := fun w => kGot_any s g true w (isC_wf hc).1 (isC_wf hc).2
  generalize Km.gotG s g true = G' at *
  clear h hD hT
  go_enter Tryz.func61, Tryz.ntmps61
  go_wp2_with fail
  have HM1 : Hid (LRow (w.setCell ⟨p, 2, none⟩ (.string (row ++ ⟨#[c]⟩))) p (lcs 2 l (row ++ ⟨#[c]⟩) x n r d wire s g)) := HM.out.set 2 _
  have HK1 : Hid (Kp p w (w.setCell ⟨p, 2, none⟩ (.string (row ++ ⟨#[c]⟩)))) := Kp.set1 (Kept.refl _ w)
  refine (HD.out _ (HT.out.kp HG.out HK1.out)).mono ?_
  rintro e w2 ⟨rfl, hb⟩
  have hm := HM1.out.on hb
  have HM2 : Hid (LRow w2 p (lcs 2 l (row ++ ⟨#[c]⟩) x n r d wire s g)) := hm
  have HK2 : Hid (Kp p w w2) := HK1.out.join hb
  clear c0 c1 c2 f0 f1 f2 a0 a1 a2 b0 b1 b2 HM HM1 HK1 hb HT HD HG
  generalize hrow : row ++ ⟨#[c]⟩ = row2 at *
  have HW : Hid (row ++ ⟨#[c]⟩ = row2) := hrow
  clear hrow
  have hp2 : p < w2.heap.size := hm.lt
  have hpw : ¬ p = w2.heap.size := Nat.ne_of_lt hp2
  have hwp : ¬ w2.heap.size = p := fun e => hpw e.symm
  have c0 : w2.cell? ⟨p, 0, none⟩ = some (.int .i64 2) := hm.c 0 _ rfl
  have f0 : w2.frozen? ⟨p, 0, none⟩ = false := hm.f 0
  have c1 : w2.cell? ⟨p, 1, none⟩ = some (.int .i64 l) := hm.c 1 _ rfl
  have f1 : w2.frozen? ⟨p, 1, none⟩ = false := hm.f 1
  have c2 : w2.cell? ⟨p, 2, none⟩ = some (.string row2) := hm.c 2 _ rfl
  have f2 : w2.frozen? ⟨p, 2, none⟩ = false := hm.f 2
  have c8 : w2.cell? ⟨p, 8, none⟩ = some (.int .i64 s) := hm.c 8 _ rfl
  have f8 : w2.frozen? ⟨p, 8, none⟩ = false := hm.f 8
  have c9 : w2.cell? ⟨p, 9, none⟩ = some (.int .i64 g) := hm.c 9 _ rfl
  have f9 : w2.frozen? ⟨p, 9, none⟩ = false := hm.f 9
  have a0 : ∀ o, (w2.alloc o).cell? ⟨p, 0, none⟩ = some (.int .i64 2) := fun o => (hm.alloc o).c 0 _ rfl
  have b0 : ∀ o, (w2.alloc o).frozen? ⟨p, 0, none⟩ = false := fun o => (hm.alloc o).f 0
  have a1 : ∀ o, (w2.alloc o).cell? ⟨p, 1, none⟩ = some (.int .i64 l) := fun o => (hm.alloc o).c 1 _ rfl
  have b1 : ∀ o, (w2.alloc o).frozen? ⟨p, 1, none⟩ = false := fun o => (hm.alloc o).f 1
  have a2 : ∀ o, (w2.alloc o).cell? ⟨p, 2, none⟩ = some (.string row2) := fun o => (hm.alloc o).c 2 _ rfl
  have b2 : ∀ o, (w2.alloc o).frozen? ⟨p, 2, none⟩ = false := fun o => (hm.alloc o).f 2
  have a8 : ∀ o, (w2.alloc o).cell? ⟨p, 8, none⟩ = some (.int .i64 s) := fun o => (hm.alloc o).c 8 _ rfl
  have b8 : ∀ o, (w2.alloc o).frozen? ⟨p, 8, none⟩ = false := fun o => (hm.alloc o).f 8
  have a9 : ∀ o, (w2.alloc o).cell? ⟨p, 9, none⟩ = some (.int .i64 g) := fun o => (hm.alloc o).c 9 _ rfl
  have b9 : ∀ o, (w2.alloc o).frozen? ⟨p, 9, none⟩ = false := fun o => (hm.alloc o).f 9
  clear hm
  go_wp2_with fail
  refine (HS.out _).mono ?_
  rintro e w3 ⟨rfl, hb⟩
  have hm : LRow w3 p (lcs 2 1 row2 x n r d wire s g) := by
    have h1 := LRow.on ((HM2.out.set 1 (.int .i64 1)).alloc (.cells #[.bool X, .int .u32 (N : Int), .bool R, .string D] 35)) (by have h := hb; rw [hone.out] at h; exact h)
    exact h1
  have HM3 : Hid (LRow w3 p (lcs 2 1 row2 x n r d wire s g)) := hm
  have HK3 : Hid (Kp p w w3) := Kp.join (Kp.alloc (Kp.set1 HK2.out) _) hb
  have LF : Hid (Lies w3 w2.heap.size X N R D) := Lies.on (alloc_at (by simp)) hb
  have L0 := LF.out.c0
  have L1 := LF.out.c1
  have L2 := LF.out.c2
  have L3 := LF.out.c3
  clear c0 c1 c2 c8 c9 f0 f1 f2 f8 f9 a0 a1 a2 a8 a9 b0 b1 b2 b8 b9
  have c8 : w3.cell? ⟨p, 8, none⟩ = some (.int .i64 s) := hm.c 8 _ rfl
  have f8 : w3.frozen? ⟨p, 8, none⟩ = false := hm.f 8
  have c9 : w3.cell? ⟨p, 9, none⟩ = some (.int .i64 g) := hm.c 9 _ rfl
  have f9 : w3.frozen? ⟨p, 9, none⟩ = false := hm.f 9
  clear hm hb HS HM2 HK2
  go_wp2
  go_ret
  rw [HW.out]
  refine ⟨_, _, rfl, EvAt.one (v := ⟨2, (X, N, R, D.data.toList), 0⟩) ?_ HK3.out.size, Kp.alloc (Kp.set1 (Kp.set1 HK3.out)) _, ((HM3.out.set 8 _).set 9 _).alloc _⟩
  exact alloc_at (by simp)
end Go.Proofs.YthkaekpoicodeaaGreatDoor
/- Package mac, over the landed code: Sample. -/
namespace Go.Proofs.YthkaekpoicodeaaGreatDoor
open Go.RowKit
set_option linter.unusedVariables false
theorem Told.of {w w' : World} {p : Nat} {evs : List Mm.Ev} {cs : Array Value} {sl : Option Addr} {cap : Nat} {e : Ending} (hE : EvAt w.heap.size w' sl cap evs) (hk : Kp p w w') (hm : LRow w' p cs) (he : e = .returned (.slice sl evs.length cap)) : Told w p evs cs e w' := ⟨sl, cap, he, hE, hk, hm⟩
/-- An append onto a list of events changes no block of the node. -/
theorem Kp.grown {p : Nat} {a b c : World} {k : Option Nat} (h : Kp p a b) (g : b.grownBy c k) (hk : ∀ j, k = some j → a.heap.size ≤ j) : Kp p a c :=
  ⟨g.os.trans h.os, g.tape.trans h.tape, g.output.trans h.output, Nat.le_trans h.size g.size, fun j hj hn => (g.block j (Nat.lt_of_lt_of_le hj h.size) (fun e => absurd (hk j e.symm) (Nat.not_le.2 hj))).trans (h.block j hj hn)⟩
theorem LRow.grown {w w' : World} {p : Nat} {cs : Array Value} {k : Option Nat} (h : LRow w p cs) (g : w.grownBy w' k) (hk : k ≠ some p) : LRow w' p cs := (g.block p h.lt (fun e => hk e.symm)).trans h
theorem EvAt.kp {B : Nat} {w w' : World} {s : Option Addr} {cap p : Nat} {l : List Mm.Ev} (h : EvAt B w s cap l) (hk : Kp p w w') (hp : p < B) : EvAt B w' s cap l :=
  h.on (fun g o e => hk.block g (h.zero g o e).2.2 (by have := (h.zero g o e).2.1; omega))
set_option maxRecDepth 100000 in
set_option maxHeartbeats 4000000 in
theorem lsamp0_48 (w : World) (p : Nat) (l : Int) (row : ByteArray) (x : Bool) (n : Nat) (r : Bool) (d wire : ByteArray) (s g : Int) (evs : List Mm.Ev) (cs : Array Value)
    (hR : Calls Tryz.prog 57 #[bptr p, .string ⟨#[48]⟩] w fun e w' => Told w p evs cs e w') (h : LRow w p (lcs 0 l row x n r d wire s g)) :
    Calls Tryz.prog 41 #[bptr p, .int .u8 48] w fun e w' => Told w p evs cs e w' := by
  have HR : Hid (Calls Tryz.prog 57 #[bptr p, .string ⟨#[48]⟩] w fun e w' => Told w p evs cs e w') := hR
  have c0 : w.cell? ⟨p, 0, none⟩ = some (.int .i64 0) := h.c 0 _ rfl
  have f0 : w.frozen? ⟨p, 0, none⟩ = false := h.f 0
  clear h hR
  go_enter Tryz.func41, Tryz.ntmps41
  go_wp2
  go_step3
  go_wp2
  go_step3
  go_wp2
  refine wp_loop_rounds 2 ?_
  rw [rounds_succ]
  go_wp2_with fail
  refine HR.out.mono ?_
  rintro e w1 hT
  have HT : Hid (Told w p evs cs e w1) := hT
  obtain ⟨sl, cap, rfl, hE, hk, hm⟩ := hT
  clear hE hk hm
  go_wp2
  go_ret
  exact HT.out
set_option maxRecDepth 100000 in
set_option maxHeartbeats 4000000 in
theorem lsamp5_48 (w : World) (p : Nat) (l : Int) (row : ByteArray) (x : Bool) (n : Nat) (r : Bool) (d wire : ByteArray) (s g : Int) (evs : List Mm.Ev) (cs : Array Value)
    (hR : Calls Tryz.prog 57 #[bptr p, .string ⟨#[48]⟩] w fun e w' => Told w p evs cs e w') (h : LRow w p (lcs 5 l row x n r d wire s g)) :
    Calls Tryz.prog 41 #[bptr p, .int .u8 48] w fun e w' => Told w p evs cs e w' := by
  have HR : Hid (Calls Tryz.prog 57 #[bptr p, .string ⟨#[48]⟩] w fun e w' => Told w p evs cs e w') := hR
  have c0 : w.cell? ⟨p, 0, none⟩ = some (.int .i64 5) := h.c 0 _ rfl
  have f0 : w.frozen? ⟨p, 0, none⟩ = false := h.f 0
  clear h hR
  go_enter Tryz.func41, Tryz.ntmps41
  go_wp2
  go_step3
  go_wp2
  go_step3
  go_wp2
  refine wp_loop_rounds 2 ?_
  rw [rounds_succ]
  go_wp2_with fail
  refine HR.out.mono ?_
  rintro e w1 hT
  have HT : Hid (Told w p evs cs e w1) := hT
  obtain ⟨sl, cap, rfl, hE, hk, hm⟩ := hT
  clear hE hk hm
  go_wp2
  go_ret
  exact HT.out
set_option maxRecDepth 100000 in
set_option maxHeartbeats 4000000 in
theorem lsamp1_48 (w : World) (p : Nat) (l : Int) (row : ByteArray) (x : Bool) (n : Nat) (r : Bool) (d wire : ByteArray) (s g : Int) (evs : List Mm.Ev) (cs : Array Value)
    (hL : ∀ w', Below w.heap.size w w' → Calls Tryz.prog 58 #[bptr p, .string ⟨#[48]⟩] w' fun e w'' => e = .returned (.bool false) ∧ Below w'.heap.size w' w'') (hS : ∀ w', Below w.heap.size w w' → Calls Tryz.prog 59 #[bptr p, .string ⟨#[48]⟩] w' fun e w'' => Told w' p evs cs e w'') (h : LRow w p (lcs 1 l row x n r d wire s g)) :
    Calls Tryz.prog 41 #[bptr p, .int .u8 48] w fun e w' => Told w p evs cs e w' := by
  have HL : Hid (∀ w', Below w.heap.size w w' → Calls Tryz.prog 58 #[bptr p, .string ⟨#[48]⟩] w' fun e w'' => e = .returned (.bool false) ∧ Below w'.heap.size w' w'') := hL
  have HS : Hid (∀ w', Below w.heap.size w w' → Calls Tryz.prog 59 #[bptr p, .string ⟨#[48]⟩] w' fun e w'' => Told w' p evs cs e w'') := hS
  have c0 : w.cell? ⟨p, 0, none⟩ = some (.int .i64 1) := h.c 0 _ rfl
  have f0 : w.frozen? ⟨p, 0, none⟩ = false := h.f 0
  clear h hL hS
  go_enter Tryz.func41, Tryz.ntmps41
  go_wp2
  go_step3
  go_wp2
  go_step3
  go_wp2
  refine wp_loop_rounds 2 ?_
  rw [rounds_succ]
  go_wp2_with fail
  refine (HL.out _ (Below.refl _ _)).mono ?_
  rintro e w1 ⟨rfl, hb⟩
  have HB : Hid (Below w.heap.size w w1) := hb
  clear hb
  go_wp2_with fail
  refine (HS.out _ HB.out).mono ?_
  rintro e w2 hT
  have HT : Hid (Told w p evs cs e w2) := Told.from (Kp.of HB.out) hT
  obtain ⟨sl, cap, rfl, hE, hk, hm⟩ := hT
  clear hE hk hm
  go_wp2
  go_ret
  exact HT.out
set_option maxRecDepth 100000 in
set_option maxHeartbeats 4000000 in
theorem lsamp4_48 (w : World) (p : Nat) (l : Int) (row : ByteArray) (x : Bool) (n : Nat) (r : Bool) (d wire : ByteArray) (s g : Int) (evs : List Mm.Ev) (cs : Array Value)
    (hR : Calls Tryz.prog 62 #[bptr p, .string ⟨#[48]⟩] w fun e w' => e = .returned (.tuple #[]) ∧ LRow w' p cs ∧ Kp p w w') (h : LRow w p (lcs 4 l row x n r d wire s g)) :
    Calls Tryz.prog 41 #[bptr p, .int .u8 48] w fun e w' => Told w p [] cs e w' := by
  have HR : Hid (Calls Tryz.prog 62 #[bptr p, .string ⟨#[48]⟩] w fun e w' => e = .returned (.tuple #[]) ∧ LRow w' p cs ∧ Kp p w w') := hR
  have c0 : w.cell? ⟨p, 0, none⟩ = some (.int .i64 4) := h.c 0 _ rfl
  have f0 : w.frozen? ⟨p, 0, none⟩ = false := h.f 0
  clear h hR
  go_enter Tryz.func41, Tryz.ntmps41
  go_wp2
  go_step3
  go_wp2
  go_step3
  go_wp2
  refine wp_loop_rounds 2 ?_
  rw [rounds_succ]
  go_wp2_with fail
  refine HR.out.mono ?_
  rintro e w1 ⟨rfl, h1, h2⟩
  have HM : Hid (LRow w1 p cs) := h1
  have HK : Hid (Kp p w w1) := h2
  clear h1 h2
  go_wp2
  go_ret
  exact ⟨_, _, rfl, EvAt.empty _ _, HK.out, HM.out⟩
set_option maxRecDepth 100000 in
set_option maxHeartbeats 4000000 in
theorem lsamp3_48 (w : World) (p : Nat) (l : Int) (row : ByteArray) (x : Bool) (n : Nat) (r : Bool) (d wire : ByteArray) (s g : Int) (evs : List Mm.Ev) (cs : Array Value)
    (k' l' : Int) (hR : ∀ w, Calls Tryz.prog 63 #[phV 3 l] w fun e w' => e = .returned (phV k' l') ∧ Below w.heap.size w w') (h : LRow w p (lcs 3 l row x n r d wire s g)) :
    Calls Tryz.prog 41 #[bptr p, .int .u8 48] w fun e w' => Told w p [] (lcs k' l' row x n r d wire s g) e w' := by
  have HR : Hid (∀ w, Calls Tryz.prog 63 #[phV 3 l] w fun e w' => e = .returned (phV k' l') ∧ Below w.heap.size w w') := hR
  have HM : Hid (LRow w p (lcs 3 l row x n r d wire s g)) := h
  have c0 : w.cell? ⟨p, 0, none⟩ = some (.int .i64 3) := h.c 0 _ rfl
  have f0 : w.frozen? ⟨p, 0, none⟩ = false := h.f 0
  have c1 : w.cell? ⟨p, 1, none⟩ = some (.int .i64 l) := h.c 1 _ rfl
  have f1 : w.frozen? ⟨p, 1, none⟩ = false := h.f 1
  clear h hR
  go_enter Tryz.func41, Tryz.ntmps41
  go_wp2
  go_step3
  go_wp2
  go_step3
  go_wp2
  refine wp_loop_rounds 2 ?_
  rw [rounds_succ]
  go_wp2_with fail
  refine (HR.out _).mono ?_
  rintro e w1 ⟨rfl, hb⟩
  have hm := HM.out.on hb
  have HM2 : Hid (LRow w1 p (lcs 3 l row x n r d wire s g)) := hm
  have HK : Hid (Kp p w w1) := Kp.of hb
  clear c0 c1 f0 f1
  have c0 : w1.cell? ⟨p, 0, none⟩ = some (.int .i64 3) := hm.c 0 _ rfl
  have f0 : w1.frozen? ⟨p, 0, none⟩ = false := hm.f 0
  have c1 : w1.cell? ⟨p, 1, none⟩ = some (.int .i64 l) := hm.c 1 _ rfl
  have f1 : w1.frozen? ⟨p, 1, none⟩ = false := hm.f 1
  clear hb HM hm
  go_wp2
  go_ret
  exact ⟨_, _, rfl, EvAt.empty _ _, Kp.set1 (Kp.set1 HK.out), (HM2.out.set 0 _).set 1 _⟩
set_option maxRecDepth 100000 in
set_option maxHeartbeats 4000000 in
theorem lsamp6_48 (w : World) (p : Nat) (l : Int) (row : ByteArray) (x : Bool) (n : Nat) (r : Bool) (d wire : ByteArray) (s g : Int) (evs : List Mm.Ev) (cs : Array Value)
     (h : LRow w p (lcs 6 l row x n r d wire s g)) :
    Calls Tryz.prog 41 #[bptr p, .int .u8 48] w fun e w' => Told w p [] (lcs 6 l row x n r d wire s g) e w' := by
  have HM : Hid (LRow w p (lcs 6 l row x n r d wire s g)) := h
  have c0 : w.cell? ⟨p, 0, none⟩ = some (.int .i64 6) := h.c 0 _ rfl
  have f0 : w.frozen? ⟨p, 0, none⟩ = false := h.f 0
  clear h
  go_enter Tryz.func41, Tryz.ntmps41
  go_wp2
  go_step3
  go_wp2
  go_step3
  go_wp2
  refine wp_loop_rounds 2 ?_
  rw [rounds_succ]
  go_wp2
  go_ret
  exact ⟨_, _, rfl, EvAt.empty _ _, Kept.refl _ w, HM.out⟩
set_option maxRecDepth 100000 in
set_option maxHeartbeats 4000000 in
theorem lsamp2_48 (w : World) (p : Nat) (l : Int) (row : ByteArray) (x : Bool) (n : Nat) (r : Bool) (d wire : ByteArray) (s g : Int) (evs : List Mm.Ev) (cs : Array Value)
    (hn : evs.length ≤ 2) (hR : Calls Tryz.prog 61 #[bptr p, .string ⟨#[48]⟩] w fun e w' => Told w p evs cs e w') (h : LRow w p (lcs 2 l row x n r d wire s g)) :
    Calls Tryz.prog 41 #[bptr p, .int .u8 48] w fun e w' => Told w p evs cs e w' := by
  have HR : Hid (Calls Tryz.prog 61 #[bptr p, .string ⟨#[48]⟩] w fun e w' => Told w p evs cs e w') := hR
  have hlt := h.lt
  have c0 : w.cell? ⟨p, 0, none⟩ = some (.int .i64 2) := h.c 0 _ rfl
  have f0 : w.frozen? ⟨p, 0, none⟩ = false := h.f 0
  clear h hR
  go_enter Tryz.func41, Tryz.ntmps41
  go_wp2
  go_step3
  go_wp2
  go_step3
  go_wp2
  refine wp_loop_rounds 2 ?_
  rw [rounds_succ]
  go_wp2_with fail
  refine HR.out.mono ?_
  rintro e w1 ⟨sl, cap, rfl, hE, hk, hm⟩
  have HE : Hid (EvAt w.heap.size w1 sl cap evs) := hE
  have HK : Hid (Kp p w w1) := hk
  have HM : Hid (LRow w1 p cs) := hm
  have hsz := hk.size
  clear hE hk hm c0 f0
  go_wp2_with (refine wpList_append_ev rfl (.tmp 45) (.tmp 48) rfl (B := w.heap.size) (s := none) (n := 0) (cap := 0) (l := []) (l2 := evs) rfl rfl rfl rfl (EvAt.empty _ _) HE.out hsz (by simp; omega) ?_; intro sd cd wd Ed' Gd' Nd'; have HE2 : Hid (EvAt w.heap.size wd sd cd evs) := Ed'; have HK2 : Hid (Kp p w wd) := HK.out.grown Gd' (fun j h => by cases h); have HM2 : Hid (LRow wd p cs) := HM.out.grown Gd' (fun h => by cases h); clear Ed' Gd' Nd')
  go_ret
  exact ⟨sd, cd, by simp, HE2.out, HK2.out, HM2.out⟩
set_option maxRecDepth 100000 in
set_option maxHeartbeats 4000000 in
theorem lsamp0_49 (w : World) (p : Nat) (l : Int) (row : ByteArray) (x : Bool) (n : Nat) (r : Bool) (d wire : ByteArray) (s g : Int) (c : UInt8) (hc : ((c.toNat : Int) == 48) = false) (evs : List Mm.Ev) (cs : Array Value)
    (hR : Calls Tryz.prog 57 #[bptr p, .string ⟨#[49]⟩] w fun e w' => Told w p evs cs e w') (h : LRow w p (lcs 0 l row x n r d wire s g)) :
    Calls Tryz.prog 41 #[bptr p, .int .u8 (c.toNat : Int)] w fun e w' => Told w p evs cs e w' := by
  have HR : Hid (Calls Tryz.prog 57 #[bptr p, .string ⟨#[49]⟩] w fun e w' => Told w p evs cs e w') := hR
  have c0 : w.cell? ⟨p, 0, none⟩ = some (.int .i64 0) := h.c 0 _ rfl
  have f0 : w.frozen? ⟨p, 0, none⟩ = false := h.f 0
  clear h hR
  go_enter Tryz.func41, Tryz.ntmps41
  go_wp2
  go_step3
  go_wp2
  go_step3
  go_wp2
  refine wp_loop_rounds 2 ?_
  rw [rounds_succ]
  go_wp2_with fail
  refine HR.out.mono ?_
  rintro e w1 hT
  have HT : Hid (Told w p evs cs e w1) := hT
  obtain ⟨sl, cap, rfl, hE, hk, hm⟩ := hT
  clear hE hk hm
  go_wp2
  go_ret
  exact HT.out
set_option maxRecDepth 100000 in
set_option maxHeartbeats 4000000 in
theorem lsamp5_49 (w : World) (p : Nat) (l : Int) (row : ByteArray) (x : Bool) (n : Nat) (r : Bool) (d wire : ByteArray) (s g : Int) (c : UInt8) (hc : ((c.toNat : Int) == 48) = false) (evs : List Mm.Ev) (cs : Array Value)
    (hR : Calls Tryz.prog 57 #[bptr p, .string ⟨#[49]⟩] w fun e w' => Told w p evs cs e w') (h : LRow w p (lcs 5 l row x n r d wire s g)) :
    Calls Tryz.prog 41 #[bptr p, .int .u8 (c.toNat : Int)] w fun e w' => Told w p evs cs e w' := by
  have HR : Hid (Calls Tryz.prog 57 #[bptr p, .string ⟨#[49]⟩] w fun e w' => Told w p evs cs e w') := hR
  have c0 : w.cell? ⟨p, 0, none⟩ = some (.int .i64 5) := h.c 0 _ rfl
  have f0 : w.frozen? ⟨p, 0, none⟩ = false := h.f 0
  clear h hR
  go_enter Tryz.func41, Tryz.ntmps41
  go_wp2
  go_step3
  go_wp2
  go_step3
  go_wp2
  refine wp_loop_rounds 2 ?_
  rw [rounds_succ]
  go_wp2_with fail
  refine HR.out.mono ?_
  rintro e w1 hT
  have HT : Hid (Told w p evs cs e w1) := hT
  obtain ⟨sl, cap, rfl, hE, hk, hm⟩ := hT
  clear hE hk hm
  go_wp2
  go_ret
  exact HT.out
set_option maxRecDepth 100000 in
set_option maxHeartbeats 4000000 in
theorem lsamp1_49 (w : World) (p : Nat) (l : Int) (row : ByteArray) (x : Bool) (n : Nat) (r : Bool) (d wire : ByteArray) (s g : Int) (c : UInt8) (hc : ((c.toNat : Int) == 48) = false) (evs : List Mm.Ev) (cs : Array Value)
    (hL : ∀ w', Below w.heap.size w w' → Calls Tryz.prog 58 #[bptr p, .string ⟨#[49]⟩] w' fun e w'' => e = .returned (.bool false) ∧ Below w'.heap.size w' w'') (hS : ∀ w', Below w.heap.size w w' → Calls Tryz.prog 59 #[bptr p, .string ⟨#[49]⟩] w' fun e w'' => Told w' p evs cs e w'') (h : LRow w p (lcs 1 l row x n r d wire s g)) :
    Calls Tryz.prog 41 #[bptr p, .int .u8 (c.toNat : Int)] w fun e w' => Told w p evs cs e w' := by
  have HL : Hid (∀ w', Below w.heap.size w w' → Calls Tryz.prog 58 #[bptr p, .string ⟨#[49]⟩] w' fun e w'' => e = .returned (.bool false) ∧ Below w'.heap.size w' w'') := hL
  have HS : Hid (∀ w', Below w.heap.size w w' → Calls Tryz.prog 59 #[bptr p, .string ⟨#[49]⟩] w' fun e w'' => Told w' p evs cs e w'') := hS
  have c0 : w.cell? ⟨p, 0, none⟩ = some (.int .i64 1) := h.c 0 _ rfl
  have f0 : w.frozen? ⟨p, 0, none⟩ = false := h.f 0
  clear h hL hS
  go_enter Tryz.func41, Tryz.ntmps41
  go_wp2
  go_step3
  go_wp2
  go_step3
  go_wp2
  refine wp_loop_rounds 2 ?_
  rw [rounds_succ]
  go_wp2_with fail
  refine (HL.out _ (Below.refl _ _)).mono ?_
  rintro e w1 ⟨rfl, hb⟩
  have HB : Hid (Below w.heap.size w w1) := hb
  clear hb
  go_wp2_with fail
  refine (HS.out _ HB.out).mono ?_
  rintro e w2 hT
  have HT : Hid (Told w p evs cs e w2) := Told.from (Kp.of HB.out) hT
  obtain ⟨sl, cap, rfl, hE, hk, hm⟩ := hT
  clear hE hk hm
  go_wp2
  go_ret
  exact HT.out
set_option maxRecDepth 100000 in
set_option maxHeartbeats 4000000 in
theorem lsamp4_49 (w : World) (p : Nat) (l : Int) (row : ByteArray) (x : Bool) (n : Nat) (r : Bool) (d wire : ByteArray) (s g : Int) (c : UInt8) (hc : ((c.toNat : Int) == 48) = false) (evs : List Mm.Ev) (cs : Array Value)
    (hR : Calls Tryz.prog 62 #[bptr p, .string ⟨#[49]⟩] w fun e w' => e = .returned (.tuple #[]) ∧ LRow w' p cs ∧ Kp p w w') (h : LRow w p (lcs 4 l row x n r d wire s g)) :
    Calls Tryz.prog 41 #[bptr p, .int .u8 (c.toNat : Int)] w fun e w' => Told w p [] cs e w' := by
  have HR : Hid (Calls Tryz.prog 62 #[bptr p, .string ⟨#[49]⟩] w fun e w' => e = .returned (.tuple #[]) ∧ LRow w' p cs ∧ Kp p w w') := hR
  have c0 : w.cell? ⟨p, 0, none⟩ = some (.int .i64 4) := h.c 0 _ rfl
  have f0 : w.frozen? ⟨p, 0, none⟩ = false := h.f 0
  clear h hR
  go_enter Tryz.func41, Tryz.ntmps41
  go_wp2
  go_step3
  go_wp2
  go_step3
  go_wp2
  refine wp_loop_rounds 2 ?_
  rw [rounds_succ]
  go_wp2_with fail
  refine HR.out.mono ?_
  rintro e w1 ⟨rfl, h1, h2⟩
  have HM : Hid (LRow w1 p cs) := h1
  have HK : Hid (Kp p w w1) := h2
  clear h1 h2
  go_wp2
  go_ret
  exact ⟨_, _, rfl, EvAt.empty _ _, HK.out, HM.out⟩
set_option maxRecDepth 100000 in
set_option maxHeartbeats 4000000 in
theorem lsamp3_49 (w : World) (p : Nat) (l : Int) (row : ByteArray) (x : Bool) (n : Nat) (r : Bool) (d wire : ByteArray) (s g : Int) (c : UInt8) (hc : ((c.toNat : Int) == 48) = false) (evs : List Mm.Ev) (cs : Array Value)
    (k' l' : Int) (hR : ∀ w, Calls Tryz.prog 63 #[phV 3 l] w fun e w' => e = .returned (phV k' l') ∧ Below w.heap.size w w') (h : LRow w p (lcs 3 l row x n r d wire s g)) :
    Calls Tryz.prog 41 #[bptr p, .int .u8 (c.toNat : Int)] w fun e w' => Told w p [] (lcs k' l' row x n r d wire s g) e w' := by
  have HR : Hid (∀ w, Calls Tryz.prog 63 #[phV 3 l] w fun e w' => e = .returned (phV k' l') ∧ Below w.heap.size w w') := hR
  have HM : Hid (LRow w p (lcs 3 l row x n r d wire s g)) := h
  have c0 : w.cell? ⟨p, 0, none⟩ = some (.int .i64 3) := h.c 0 _ rfl
  have f0 : w.frozen? ⟨p, 0, none⟩ = false := h.f 0
  have c1 : w.cell? ⟨p, 1, none⟩ = some (.int .i64 l) := h.c 1 _ rfl
  have f1 : w.frozen? ⟨p, 1, none⟩ = false := h.f 1
  clear h hR
  go_enter Tryz.func41, Tryz.ntmps41
  go_wp2
  go_step3
  go_wp2
  go_step3
  go_wp2
  refine wp_loop_rounds 2 ?_
  rw [rounds_succ]
  go_wp2_with fail
  refine (HR.out _).mono ?_
  rintro e w1 ⟨rfl, hb⟩
  have hm := HM.out.on hb
  have HM2 : Hid (LRow w1 p (lcs 3 l row x n r d wire s g)) := hm
  have HK : Hid (Kp p w w1) := Kp.of hb
  clear c0 c1 f0 f1
  have c0 : w1.cell? ⟨p, 0, none⟩ = some (.int .i64 3) := hm.c 0 _ rfl
  have f0 : w1.frozen? ⟨p, 0, none⟩ = false := hm.f 0
  have c1 : w1.cell? ⟨p, 1, none⟩ = some (.int .i64 l) := hm.c 1 _ rfl
  have f1 : w1.frozen? ⟨p, 1, none⟩ = false := hm.f 1
  clear hb HM hm
  go_wp2
  go_ret
  exact ⟨_, _, rfl, EvAt.empty _ _, Kp.set1 (Kp.set1 HK.out), (HM2.out.set 0 _).set 1 _⟩
set_option maxRecDepth 100000 in
set_option maxHeartbeats 4000000 in
theorem lsamp6_49 (w : World) (p : Nat) (l : Int) (row : ByteArray) (x : Bool) (n : Nat) (r : Bool) (d wire : ByteArray) (s g : Int) (c : UInt8) (hc : ((c.toNat : Int) == 48) = false) (evs : List Mm.Ev) (cs : Array Value)
     (h : LRow w p (lcs 6 l row x n r d wire s g)) :
    Calls Tryz.prog 41 #[bptr p, .int .u8 (c.toNat : Int)] w fun e w' => Told w p [] (lcs 6 l row x n r d wire s g) e w' := by
  have HM : Hid (LRow w p (lcs 6 l row x n r d wire s g)) := h
  have c0 : w.cell? ⟨p, 0, none⟩ = some (.int .i64 6) := h.c 0 _ rfl
  have f0 : w.frozen? ⟨p, 0, none⟩ = false := h.f 0
  clear h
  go_enter Tryz.func41, Tryz.ntmps41
  go_wp2
  go_step3
  go_wp2
  go_step3
  go_wp2
  refine wp_loop_rounds 2 ?_
  rw [rounds_succ]
  go_wp2
  go_ret
  exact ⟨_, _, rfl, EvAt.empty _ _, Kept.refl _ w, HM.out⟩
set_option maxRecDepth 100000 in
set_option maxHeartbeats 4000000 in
theorem lsamp2_49 (w : World) (p : Nat) (l : Int) (row : ByteArray) (x : Bool) (n : Nat) (r : Bool) (d wire : ByteArray) (s g : Int) (c : UInt8) (hc : ((c.toNat : Int) == 48) = false) (evs : List Mm.Ev) (cs : Array Value)
    (hn : evs.length ≤ 2) (hR : Calls Tryz.prog 61 #[bptr p, .string ⟨#[49]⟩] w fun e w' => Told w p evs cs e w') (h : LRow w p (lcs 2 l row x n r d wire s g)) :
    Calls Tryz.prog 41 #[bptr p, .int .u8 (c.toNat : Int)] w fun e w' => Told w p evs cs e w' := by
  have HR : Hid (Calls Tryz.prog 61 #[bptr p, .string ⟨#[49]⟩] w fun e w' => Told w p evs cs e w') := hR
  have hlt := h.lt
  have c0 : w.cell? ⟨p, 0, none⟩ = some (.int .i64 2) := h.c 0 _ rfl
  have f0 : w.frozen? ⟨p, 0, none⟩ = false := h.f 0
  clear h hR
  go_enter Tryz.func41, Tryz.ntmps41
  go_wp2
  go_step3
  go_wp2
  go_step3
  go_wp2
  refine wp_loop_rounds 2 ?_
  rw [rounds_succ]
  go_wp2_with fail
  refine HR.out.mono ?_
  rintro e w1 ⟨sl, cap, rfl, hE, hk, hm⟩
  have HE : Hid (EvAt w.heap.size w1 sl cap evs) := hE
  have HK : Hid (Kp p w w1) := hk
  have HM : Hid (LRow w1 p cs) := hm
  have hsz := hk.size
  clear hE hk hm c0 f0
  go_wp2_with (refine wpList_append_ev rfl (.tmp 45) (.tmp 48) rfl (B := w.heap.size) (s := none) (n := 0) (cap := 0) (l := []) (l2 := evs) rfl rfl rfl rfl (EvAt.empty _ _) HE.out hsz (by simp; omega) ?_; intro sd cd wd Ed' Gd' Nd'; have HE2 : Hid (EvAt w.heap.size wd sd cd evs) := Ed'; have HK2 : Hid (Kp p w wd) := HK.out.grown Gd' (fun j h => by cases h); have HM2 : Hid (LRow wd p cs) := HM.out.grown Gd' (fun h => by cases h); clear Ed' Gd' Nd')
  go_ret
  exact ⟨sd, cd, by simp, HE2.out, HK2.out, HM2.out⟩
set_option maxRecDepth 100000 in
set_option maxHeartbeats 4000000 in
theorem lsamp_lost (w : World) (p : Nat) (l : Int) (row : ByteArray) (x : Bool) (n : Nat) (r : Bool) (d wire : ByteArray) (s g : Int) (evs : List Mm.Ev) (cs : Array Value) (hn : evs.length ≤ 2)
    (hL : ∀ w', Below w.heap.size w w' → Calls Tryz.prog 58 #[bptr p, .string ⟨#[48]⟩] w' fun e w'' => e = .returned (.bool true) ∧ Below w'.heap.size w' w'') (hH : ∀ w', Kp p w w' → LRow w' p (lcs 2 0 row false 0 false ⟨#[]⟩ ⟨#[]⟩ s g) → Calls Tryz.prog 61 #[bptr p, .string ⟨#[48]⟩] w' fun e w'' => Told w' p evs cs e w'') (h : LRow w p (lcs 1 l row x n r d wire s g)) :
    Calls Tryz.prog 41 #[bptr p, .int .u8 48] w fun e w' => Told w p (⟨3, (x, n, r, d.data.toList), 0⟩ :: evs) cs e w' := by
  have HL : Hid (∀ w', Below w.heap.size w w' → Calls Tryz.prog 58 #[bptr p, .string ⟨#[48]⟩] w' fun e w'' => e = .returned (.bool true) ∧ Below w'.heap.size w' w'') := hL
  have HH : Hid (∀ w', Kp p w w' → LRow w' p (lcs 2 0 row false 0 false ⟨#[]⟩ ⟨#[]⟩ s g) → Calls Tryz.prog 61 #[bptr p, .string ⟨#[48]⟩] w' fun e w'' => Told w' p evs cs e w'') := hH
  have HM : Hid (LRow w p (lcs 1 l row x n r d wire s g)) := h
  have hlt := h.lt
  have c0 : w.cell? ⟨p, 0, none⟩ = some (.int .i64 1) := h.c 0 _ rfl
  have f0 : w.frozen? ⟨p, 0, none⟩ = false := h.f 0
  clear h hL hH
  go_enter Tryz.func41, Tryz.ntmps41
  go_wp2
  go_step3
  go_wp2
  go_step3
  go_wp2
  refine wp_loop_rounds 2 ?_
  rw [rounds_succ]
  go_wp2_with fail
  refine (HL.out _ (Below.refl _ _)).mono ?_
  rintro e w1 ⟨rfl, hb⟩
  have hm := HM.out.on hb
  have HM1 : Hid (LRow w1 p (lcs 1 l row x n r d wire s g)) := hm
  have HK1 : Hid (Kp p w w1) := Kp.of hb
  have hs1 := hb.size
  clear c0 f0
  have c3 : w1.cell? ⟨p, 3, none⟩ = some (.bool x) := hm.c 3 _ rfl
  have f3 : w1.frozen? ⟨p, 3, none⟩ = false := hm.f 3
  have c4 : w1.cell? ⟨p, 4, none⟩ = some (.int .u32 n) := hm.c 4 _ rfl
  have f4 : w1.frozen? ⟨p, 4, none⟩ = false := hm.f 4
  have c5 : w1.cell? ⟨p, 5, none⟩ = some (.bool r) := hm.c 5 _ rfl
  have f5 : w1.frozen? ⟨p, 5, none⟩ = false := hm.f 5
  have c6 : w1.cell? ⟨p, 6, none⟩ = some (.string d) := hm.c 6 _ rfl
  have f6 : w1.frozen? ⟨p, 6, none⟩ = false := hm.f 6
  have a3 : ∀ o, (w1.alloc o).cell? ⟨p, 3, none⟩ = some (.bool x) := fun o => (hm.alloc o).c 3 _ rfl
  have b3 : ∀ o, (w1.alloc o).frozen? ⟨p, 3, none⟩ = false := fun o => (hm.alloc o).f 3
  have a4 : ∀ o, (w1.alloc o).cell? ⟨p, 4, none⟩ = some (.int .u32 n) := fun o => (hm.alloc o).c 4 _ rfl
  have b4 : ∀ o, (w1.alloc o).frozen? ⟨p, 4, none⟩ = false := fun o => (hm.alloc o).f 4
  have a5 : ∀ o, (w1.alloc o).cell? ⟨p, 5, none⟩ = some (.bool r) := fun o => (hm.alloc o).c 5 _ rfl
  have b5 : ∀ o, (w1.alloc o).frozen? ⟨p, 5, none⟩ = false := fun o => (hm.alloc o).f 5
  have a6 : ∀ o, (w1.alloc o).cell? ⟨p, 6, none⟩ = some (.string d) := fun o => (hm.alloc o).c 6 _ rfl
  have b6 : ∀ o, (w1.alloc o).frozen? ⟨p, 6, none⟩ = false := fun o => (hm.alloc o).f 6
  clear hm hb HM HL
  have HEo : Hid (EvAt w1.heap.size (w1.alloc (.cells #[.int .i64 3, .bool x, .int .u32 (n : Int), .bool r, .string d, .int .i64 0] 60)) (some ⟨w1.heap.size, 0, none⟩) 1 [⟨3, (x, n, r, d.data.toList), 0⟩]) := EvAt.one (alloc_at rfl) (Nat.le_refl _)
  have HBo : Hid (w.heap.size ≤ (w1.alloc (.cells #[.int .i64 3, .bool x, .int .u32 (n : Int), .bool r, .string d, .int .i64 0] 60)).heap.size) := Nat.le_trans hs1 (by simp)
  go_wp2_with (refine wpList_append_ev rfl (.tmp 29) (.tmp 35) rfl (B := w.heap.size) (B2 := w1.heap.size) (s := none) (n := 0) (cap := 0) (l := []) (l2 := [⟨3, (x, n, r, d.data.toList), 0⟩]) rfl rfl rfl rfl (EvAt.empty _ _) HEo.out HBo.out (Nat.le_of_ble_eq_true rfl) ?_; intro sd cd wd Ed' Gd' Nd'; have HE2 : Hid (EvAt w.heap.size wd sd cd [⟨3, (x, n, r, d.data.toList), 0⟩]) := Ed'; have HK2 : Hid (Kp p w wd) := (Kp.alloc HK1.out _).grown Gd' (fun j h => by cases h); have HM2 : Hid (LRow wd p (lcs 1 l row x n r d wire s g)) := (HM1.out.alloc _).grown Gd' (fun h => by cases h); clear Ed' Gd' Nd' c3 c4 c5 c6 f3 f4 f5 f6 a3 a4 a5 a6 b3 b4 b5 b6)
  refine (ldrop_any _ p 1 l row x n r d wire s g HM2.out).mono ?_
  rintro e w2 ⟨rfl, h1, h2⟩
  have HM3 : Hid (LRow w2 p (lcs 1 l row false 0 false ⟨#[]⟩ ⟨#[]⟩ s g)) := h1
  have HK3 : Hid (Kp p w w2) := HK2.out.then h2
  have HE3 : Hid (EvAt w.heap.size w2 sd cd [⟨3, (x, n, r, d.data.toList), 0⟩]) := HE2.out.kp h2 hlt
  have c0 : w2.cell? ⟨p, 0, none⟩ = some (.int .i64 1) := h1.c 0 _ rfl
  have f0 : w2.frozen? ⟨p, 0, none⟩ = false := h1.f 0
  have c1 : w2.cell? ⟨p, 1, none⟩ = some (.int .i64 l) := h1.c 1 _ rfl
  have f1 : w2.frozen? ⟨p, 1, none⟩ = false := h1.f 1
  clear h1 h2 HM1 HK1 HE2 HK2 HM2
  go_wp2
  have HM4 : Hid (LRow ((w2.setCell ⟨p, 0, none⟩ (.int .i64 2)).setCell ⟨p, 1, none⟩ (.int .i64 0)) p (lcs 2 0 row false 0 false ⟨#[]⟩ ⟨#[]⟩ s g)) := (HM3.out.set 0 _).set 1 _
  have HK4 : Hid (Kp p w ((w2.setCell ⟨p, 0, none⟩ (.int .i64 2)).setCell ⟨p, 1, none⟩ (.int .i64 0))) := Kp.set1 (Kp.set1 HK3.out)
  have HE4 : Hid (EvAt w.heap.size ((w2.setCell ⟨p, 0, none⟩ (.int .i64 2)).setCell ⟨p, 1, none⟩ (.int .i64 0)) sd cd [⟨3, (x, n, r, d.data.toList), 0⟩]) := HE3.out.kp (Kp.set1 (Kp.set1 (Kept.refl _ w2))) hlt
  clear c0 c1 f0 f1 HM3 HK3 HE3
  generalize (w2.setCell ⟨p, 0, none⟩ (.int .i64 2)).setCell ⟨p, 1, none⟩ (.int .i64 0) = w3 at *
  have hm := HM4.out
  have c0 : w3.cell? ⟨p, 0, none⟩ = some (.int .i64 2) := hm.c 0 _ rfl
  have f0 : w3.frozen? ⟨p, 0, none⟩ = false := hm.f 0
  clear hm
  rw [rounds_succ]
  go_wp2_with fail
  refine (HH.out _ HK4.out HM4.out).mono ?_
  rintro e w4 ⟨sl, cap, rfl, hE, hk, hm⟩
  have HE : Hid (EvAt w.heap.size w4 sl cap evs) := hE.base HK4.out.size
  have HE5 : Hid (EvAt w.heap.size w4 sd cd [⟨3, (x, n, r, d.data.toList), 0⟩]) := HE4.out.kp hk hlt
  have HK : Hid (Kp p w w4) := HK4.out.then hk
  have HM : Hid (LRow w4 p cs) := hm
  have hsz : w.heap.size ≤ w4.heap.size := HK.out.size
  have hz : ∀ j o, sd = some ⟨j, o, none⟩ → w.heap.size ≤ j := fun j o e => (HE5.out.zero j o e).2.1
  have hpl := HE5.out.plain
  have HZ : Hid (∀ j, sd.map (·.block) = some j → w.heap.size ≤ j) := fun j h => by
    cases sd with
    | none => cases h
    | some a =>
      obtain ⟨b, o, sp⟩ := a
      obtain rfl : sp = none := hpl _ rfl
      have h : some b = some j := h
      injection h with h
      subst h
      exact hz b o rfl
  clear hE hk hm c0 f0 hz hpl HE4 HK4 HM4
  go_wp2_with (refine wpList_append_ev rfl (.tmp 45) (.tmp 48) rfl (B := w.heap.size) (l := [⟨3, (x, n, r, d.data.toList), 0⟩]) (l2 := evs) rfl rfl rfl rfl HE5.out HE.out hsz (by simp; omega) ?_; intro se ce we Ed' Gd' Nd'; have HE2 : Hid (EvAt w.heap.size we se ce (⟨3, (x, n, r, d.data.toList), 0⟩ :: evs)) := Ed'; have HK2 : Hid (Kp p w we) := HK.out.grown Gd' HZ.out; have HM2 : Hid (LRow we p cs) := HM.out.grown Gd' (fun h => by have := HZ.out p h; omega); clear Ed' Gd' Nd')
  go_ret
  exact ⟨se, ce, by simp [Nat.add_comm], HE2.out, HK2.out, HM2.out⟩
end Go.Proofs.YthkaekpoicodeaaGreatDoor
