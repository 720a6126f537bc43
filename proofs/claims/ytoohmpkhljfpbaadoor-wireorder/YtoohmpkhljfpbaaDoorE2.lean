/- Package mac, over the landed code: Ask, Cancel, Copy, Drive. -/
import Derived.Test.YtoohmpkhljfpbaaDoorE1
import Derived.Test.YtoohmpkhljfpbaaDoorZ5
namespace Go.Proofs.YtoohmpkhljfpbaaDoor
open Go.RowKit
set_option linter.unusedVariables false
theorem drewB {w w' : World} (h : Below w.drew.heap.size w.drew w') : Below w.heap.size w w' := ((Below.refl w.heap.size w).drew).trans h
set_option maxRecDepth 100000 in
set_option maxHeartbeats 2000000 in
theorem lask_off (w : World) (p : Nat) (l : Int) (row : ByteArray) (x : Bool) (n : Int) (r : Bool) (d wire : ByteArray) (s g : Int) (X : Bool) (N : Nat) (R : Bool) (D : ByteArray) (h : LRow w p (lcs 6 l row x n r d wire s g)) :
    Calls Tryd.prog 27 #[bptr p, .agg #[.bool X, .int .u32 (N : Int), .bool R, .string D]] w fun e w' => e = .returned (.int .i64 73) ∧ LRow w' p (lcs 6 l row x n r d wire s g) ∧ Kp p w w' := by
  have HM : Hid (LRow w p (lcs 6 l row x n r d wire s g)) := h
  have hlt := h.lt
  have c0 : w.cell? ⟨p, 0, none⟩ = some (.int .i64 6) := h.c 0 _ rfl
  have f0 : w.frozen? ⟨p, 0, none⟩ = false := h.f 0
  clear h
  go_enter Tryd.func27, Tryd.ntmps27
  go_wp2
  go_ret
  exact ⟨rfl, HM.out.alloc _, Kp.alloc (Kept.refl _ _) _⟩
set_option maxRecDepth 100000 in
set_option maxHeartbeats 2000000 in
theorem lask_form (w : World) (p : Nat) (k l : Int) (row : ByteArray) (x : Bool) (n : Int) (r : Bool) (d wire : ByteArray) (s g : Int) (X : Bool) (N : Nat) (R : Bool) (D : ByteArray) (hk : (k == 6) = false) (hF : Fm.isF X N R D.data.toList = false) (hT : Tab w) (h : LRow w p (lcs k l row x n r d wire s g)) :
    Calls Tryd.prog 27 #[bptr p, .agg #[.bool X, .int .u32 (N : Int), .bool R, .string D]] w fun e w' => e = .returned (.int .i64 12) ∧ LRow w' p (lcs k l row x n r d wire s g) ∧ Kp p w w' := by
  have HM : Hid (LRow w p (lcs k l row x n r d wire s g)) := h
  have HI := fun w hT => fIs_any X N R D w hT
  rw [hF] at HI
  have HT : Hid (Tab _) := hT.alloc (.cells #[.bool X, .int .u32 (N : Int), .bool R, .string D] 26)
  have hlt := h.lt
  have c0 : w.cell? ⟨p, 0, none⟩ = some (.int .i64 k) := h.c 0 _ rfl
  have f0 : w.frozen? ⟨p, 0, none⟩ = false := h.f 0
  clear h hT hF
  go_enter Tryd.func27, Tryd.ntmps27
  go_wp2_with fail
  refine (HI _ HT.out).mono ?_
  rintro e w1 ⟨rfl, hb⟩
  have hb2 : Hid (Below w.heap.size w w1) := below_joinK ((Below.refl _ _).alloc (Nat.le_refl _) _) hb (by simp)
  clear hb HI
  go_wp2
  go_ret
  exact ⟨rfl, HM.out.on hb2.out, Kp.of hb2.out⟩
set_option maxRecDepth 100000 in
set_option maxHeartbeats 2000000 in
theorem lask_busy (w : World) (p : Nat) (k l : Int) (row : ByteArray) (x : Bool) (n : Int) (r : Bool) (d wire : ByteArray) (s g : Int) (X : Bool) (N : Nat) (R : Bool) (D : ByteArray) (hk : (k == 6) = false) (hF : Fm.isF X N R D.data.toList = true) (hw : 0 < wire.size) (hT : Tab w) (h : LRow w p (lcs k l row x n r d wire s g)) :
    Calls Tryd.prog 27 #[bptr p, .agg #[.bool X, .int .u32 (N : Int), .bool R, .string D]] w fun e w' => e = .returned (.int .i64 72) ∧ LRow w' p (lcs k l row x n r d wire s g) ∧ Kp p w w' := by
  have HM : Hid (LRow w p (lcs k l row x n r d wire s g)) := h
  have HI := fun w hT => fIs_any X N R D w hT
  rw [hF] at HI
  have HT : Hid (Tab _) := hT.alloc (.cells #[.bool X, .int .u32 (N : Int), .bool R, .string D] 26)
  have HB : Hid (∀ w, LRow w p (lcs k l row x n r d wire s g) → Calls Tryd.prog 14 #[bptr p] w fun e w' => e = .returned (.bool true) ∧ Below w.heap.size w w') := fun w h => lbusy1 w p k l row x n r d wire s g hw h
  have hlt := h.lt
  have c0 : w.cell? ⟨p, 0, none⟩ = some (.int .i64 k) := h.c 0 _ rfl
  have f0 : w.frozen? ⟨p, 0, none⟩ = false := h.f 0
  clear h hT hF hw
  go_enter Tryd.func27, Tryd.ntmps27
  go_wp2_with fail
  refine (HI _ HT.out).mono ?_
  rintro e w1 ⟨rfl, hb⟩
  have hb2 : Hid (Below w.heap.size w w1) := below_joinK ((Below.refl _ _).alloc (Nat.le_refl _) _) hb (by simp)
  clear hb HI
  go_wp2_with fail
  refine (HB.out _ (HM.out.on hb2.out)).mono ?_
  rintro e w2 ⟨rfl, hb⟩
  replace hb2 : Hid (Below w.heap.size w w2) := below_joinK hb2.out hb hb2.out.size
  clear hb HB
  go_wp2
  go_ret
  exact ⟨rfl, HM.out.on hb2.out, Kp.of hb2.out⟩
set_option maxRecDepth 100000 in
set_option maxHeartbeats 4000000 in
theorem lask_ok (w : World) (p : Nat) (k l : Int) (row : ByteArray) (x : Bool) (n : Int) (r : Bool) (d : ByteArray) (s g : Int) (X : Bool) (N : Nat) (R : Bool) (D : ByteArray) (hk : (k == 6) = false) (hF : Fm.isF X N R D.data.toList = true) (hN : N < 4294967296) (hT : Tab w) (h : LRow w p (lcs k l row x n r d ⟨#[]⟩ s g)) :
    Calls Tryd.prog 27 #[bptr p, .agg #[.bool X, .int .u32 (N : Int), .bool R, .string D]] w fun e w' => e = .returned (.int .i64 0) ∧ LRow w' p (lcs k l row X N R D ⟨(Bm.row (Cm.enc X N R D.data.toList)).toArray⟩ s g) ∧ Kp p w w' := by
  have HM : Hid (LRow w p (lcs k l row x n r d ⟨#[]⟩ s g)) := h
  have HI := fun w hT => fIs_any X N R D w hT
  rw [hF] at HI
  have HE : Hid (∀ w, Tab w → Calls Tryd.prog 36 #[.agg #[.bool X, .int .u32 (N : Int), .bool R, .string D]] w fun e w' => e = .returned (.string ⟨(Bm.row (Cm.enc X N R D.data.toList)).toArray⟩) ∧ Below w.heap.size w w') := fun w hT => cEnc_any X N R D w hT hN
  generalize ByteArray.mk (Bm.row (Cm.enc X N R D.data.toList)).toArray = T at *
  have HT : Hid (Tab _) := hT.alloc (.cells #[.bool X, .int .u32 (N : Int), .bool R, .string D] 26)
  have HB : Hid (∀ w, LRow w p (lcs k l row x n r d ⟨#[]⟩ s g) → Calls Tryd.prog 14 #[bptr p] w fun e w' => e = .returned (.bool false) ∧ Below w.heap.size w w') := fun w h => lbusy0 w p k l row x n r d s g h
  have hlt := h.lt
  have c0 : w.cell? ⟨p, 0, none⟩ = some (.int .i64 k) := h.c 0 _ rfl
  have f0 : w.frozen? ⟨p, 0, none⟩ = false := h.f 0
  clear h hT hF hN
  go_enter Tryd.func27, Tryd.ntmps27
  go_wp2_with fail
  refine (HI _ HT.out).mono ?_
  rintro e w1 ⟨rfl, hb⟩
  have hb2 : Hid (Below w.heap.size w w1) := below_joinK ((Below.refl _ _).alloc (Nat.le_refl _) _) hb (by simp)
  replace HT : Hid (Tab w1) := HT.out.below hb
  have LF : Hid (Lies w1 w.heap.size X N R D) := (Lies.new w _ _ _ _).on hb
  clear hb HI
  go_wp2_with fail
  refine (HB.out _ (HM.out.on hb2.out)).mono ?_
  rintro e w2 ⟨rfl, hb⟩
  replace hb2 : Hid (Below w.heap.size w w2) := below_joinK hb2.out hb hb2.out.size
  replace HT : Hid (Tab w2) := HT.out.below hb
  replace LF : Hid (Lies w2 w.heap.size X N R D) := LF.out.on hb
  clear hb HB
  have HM2 : Hid (LRow w2 p (lcs k l row x n r d ⟨#[]⟩ s g)) := HM.out.on hb2.out
  clear HM c0 f0
  go_wp2_with fail
  have hwp : ¬ w.heap.size = p := by omega
  have hpw : ¬ p = w.heap.size := by omega
  have L0 := LF.out.c0
  have L1 := LF.out.c1
  have L2 := LF.out.c2
  have L3 := LF.out.c3
  have hm := HM2.out
  have cm3 : w2.cell? ⟨p, 3, none⟩ = some (.bool x) := hm.c 3 _ rfl
  have fm3 : w2.frozen? ⟨p, 3, none⟩ = false := hm.f 3
  have cm4 : w2.cell? ⟨p, 4, none⟩ = some (.int .u32 n) := hm.c 4 _ rfl
  have fm4 : w2.frozen? ⟨p, 4, none⟩ = false := hm.f 4
  have cm5 : w2.cell? ⟨p, 5, none⟩ = some (.bool r) := hm.c 5 _ rfl
  have fm5 : w2.frozen? ⟨p, 5, none⟩ = false := hm.f 5
  have cm6 : w2.cell? ⟨p, 6, none⟩ = some (.string d) := hm.c 6 _ rfl
  have fm6 : w2.frozen? ⟨p, 6, none⟩ = false := hm.f 6
  have cm7 : w2.cell? ⟨p, 7, none⟩ = some (.string ⟨#[]⟩) := hm.c 7 _ rfl
  have fm7 : w2.frozen? ⟨p, 7, none⟩ = false := hm.f 7
  clear hm
  go_region_with (go_at_call 36; refine (HE.out _ (by exact HT.out)).mono ?_; rintro e w3 ⟨rfl, hb3⟩; have hb4 : Below w2.heap.size w2 w3 := drewB hb3; replace LF : Hid (Lies w3 w.heap.size X N R D) := LF.out.on hb4; replace HM2 : Hid (LRow w3 p (lcs k l row x n r d ⟨#[]⟩ s g)) := HM2.out.on hb4; replace hb2 : Hid (Below w.heap.size w w3) := below_joinK hb2.out hb4 hb2.out.size; clear hb3 hb4 L0 L1 L2 L3 cm3 cm4 cm5 cm6 cm7 fm3 fm4 fm5 fm6 fm7; have L0 := LF.out.c0; have L1 := LF.out.c1; have L2 := LF.out.c2; have L3 := LF.out.c3; have hm := HM2.out; have cm3 := hm.c 3 _ rfl; have cm4 := hm.c 4 _ rfl; have cm5 := hm.c 5 _ rfl; have cm6 := hm.c 6 _ rfl; have cm7 := hm.c 7 _ rfl; have fm3 := hm.f 3; have fm4 := hm.f 4; have fm5 := hm.f 5; have fm6 := hm.f 6; have fm7 := hm.f 7; clear hm)
  all_goals
    go_wp2
    go_ret
    exact ⟨rfl, ((((HM2.out.set 3 _).set 4 _).set 5 _).set 6 _).set 7 _, Kp.set1 (Kp.set1 (Kp.set1 (Kp.set1 (Kp.set1 (Kp.of hb2.out)))))⟩
/-- What a node drives: a 1 (49) or a 0 (48). -/
abbrev dV (b : Bool) : Value := .int .u8 (if b then 49 else 48)
set_option maxRecDepth 100000 in
set_option maxHeartbeats 2000000 in
theorem ldrive_send (w : World) (p : Nat) (l : Int) (row : ByteArray) (x : Bool) (n : Int) (r : Bool) (d : ByteArray) (s g : Int) (out : List Bool) (i : Nat) (hi : i < out.length) (ho : out.length ≤ 200) (hr : row.size = i) (h : LRow w p (lcs 1 l row x n r d ⟨(Bm.row out).toArray⟩ s g)) :
    Calls Tryd.prog 38 #[bptr p] w fun e w' => e = .returned (dV (out.getD i true)) ∧ Below w.heap.size w w' := by
  have HN : Hid (Calls Tryd.prog 46 #[bptr p] w fun e w' => e = .returned (dV (out.getD i true)) ∧ Below w.heap.size w w') := lnext_any w p 1 l row x n r d s g out i hi ho hr h
  have c0 : w.cell? ⟨p, 0, none⟩ = some (.int .i64 1) := h.c 0 _ rfl
  have f0 : w.frozen? ⟨p, 0, none⟩ = false := h.f 0
  generalize dV (out.getD i true) = V at *
  clear h hi ho hr
  go_enter Tryd.func38, Tryd.ntmps38
  go_wp2_with fail
  refine HN.out.mono ?_
  rintro e w1 ⟨rfl, hb⟩
  have hb2 : Hid (Below w.heap.size w w1) := hb
  clear hb
  go_wp2
  go_ret
  exact ⟨rfl, hb2.out⟩
set_option maxRecDepth 100000 in
set_option maxHeartbeats 2000000 in
theorem ldrive_hear (w : World) (p : Nat) (l : Int) (row : ByteArray) (x : Bool) (n : Int) (r : Bool) (d wire : ByteArray) (s g : Int) (b : Bool) (hb : (l == 9) = b) (h : LRow w p (lcs 2 l row x n r d wire s g)) :
    Calls Tryd.prog 38 #[bptr p] w fun e w' => e = .returned (dV (!b)) ∧ Below w.heap.size w w' := by
  have hlt := h.lt
  have c0 : w.cell? ⟨p, 0, none⟩ = some (.int .i64 2) := h.c 0 _ rfl
  have f0 : w.frozen? ⟨p, 0, none⟩ = false := h.f 0
  have c1 : w.cell? ⟨p, 1, none⟩ = some (.int .i64 l) := h.c 1 _ rfl
  have f1 : w.frozen? ⟨p, 1, none⟩ = false := h.f 1
  have a0 : ∀ o, (w.alloc o).cell? ⟨p, 0, none⟩ = some (.int .i64 2) := fun o => (h.alloc o).c 0 _ rfl
  have b0 : ∀ o, (w.alloc o).frozen? ⟨p, 0, none⟩ = false := fun o => (h.alloc o).f 0
  have a1 : ∀ o, (w.alloc o).cell? ⟨p, 1, none⟩ = some (.int .i64 l) := fun o => (h.alloc o).c 1 _ rfl
  have b1 : ∀ o, (w.alloc o).frozen? ⟨p, 1, none⟩ = false := fun o => (h.alloc o).f 1
  clear h
  have hl : b = true → l = 9 := fun e => by rw [e] at hb; simpa using hb
  cases b
  · go_enter Tryd.func38, Tryd.ntmps38
    go_wp2
    go_ret
    exact ⟨rfl, Below.refl _ _⟩
  · obtain rfl := hl rfl
    go_enter Tryd.func38, Tryd.ntmps38
    go_wp2
    go_ret
    exact ⟨rfl, Below.refl _ _⟩
set_option maxRecDepth 100000 in
set_option maxHeartbeats 2000000 in
theorem ldrive_flag (w : World) (p : Nat) (l : Int) (row : ByteArray) (x : Bool) (n : Int) (r : Bool) (d wire : ByteArray) (s g : Int) (ws : (Lit.int .i64 s).wf = true) (wg : (Lit.int .i64 g).wf = true) (h : LRow w p (lcs 3 l row x n r d wire s g)) :
    Calls Tryd.prog 38 #[bptr p] w fun e w' => e = .returned (dV (Km.pasC s g)) ∧ Below w.heap.size w w' := by
  have HP : Hid (∀ w, Calls Tryd.prog 47 #[.agg #[.int .i64 s, .int .i64 g]] w fun e w' => e = .returned (.bool (Km.pasC s g)) ∧ Below w.heap.size w w') := fun w => kPas_any s g w ws wg
  generalize Km.pasC s g = b at *
  have c0 : w.cell? ⟨p, 0, none⟩ = some (.int .i64 3) := h.c 0 _ rfl
  have f0 : w.frozen? ⟨p, 0, none⟩ = false := h.f 0
  have c8 : w.cell? ⟨p, 8, none⟩ = some (.int .i64 s) := h.c 8 _ rfl
  have f8 : w.frozen? ⟨p, 8, none⟩ = false := h.f 8
  have c9 : w.cell? ⟨p, 9, none⟩ = some (.int .i64 g) := h.c 9 _ rfl
  have f9 : w.frozen? ⟨p, 9, none⟩ = false := h.f 9
  clear h ws wg
  cases b
  all_goals
    go_enter Tryd.func38, Tryd.ntmps38
    go_wp2_with fail
    refine (HP.out _).mono ?_
    rintro e w1 ⟨rfl, hb⟩
    have hb2 : Hid (Below w.heap.size w w1) := hb
    clear hb
    go_wp2
    go_ret
    exact ⟨rfl, hb2.out⟩
set_option maxRecDepth 100000 in
set_option maxHeartbeats 2000000 in
theorem ldrive_idle (w : World) (p : Nat) (l : Int) (row : ByteArray) (x : Bool) (n : Int) (r : Bool) (d wire : ByteArray) (s g : Int) (b : Bool) (hw : wire = ⟨#[]⟩ ∧ b = false ∨ 0 < wire.size ∧ b = true) (h : LRow w p (lcs 0 l row x n r d wire s g)) :
    Calls Tryd.prog 38 #[bptr p] w fun e w' => e = .returned (dV (!b)) ∧ Below w.heap.size w w' := by
  have HP : Hid (Calls Tryd.prog 14 #[bptr p] w fun e w' => e = .returned (.bool b) ∧ Below w.heap.size w w') := by
    rcases hw with ⟨rfl, rfl⟩ | ⟨hw, rfl⟩
    · exact lbusy0 w p 0 l row x n r d s g h
    · exact lbusy1 w p 0 l row x n r d wire s g hw h
  have c0 : w.cell? ⟨p, 0, none⟩ = some (.int .i64 0) := h.c 0 _ rfl
  have f0 : w.frozen? ⟨p, 0, none⟩ = false := h.f 0
  clear h hw
  cases b
  all_goals
    go_enter Tryd.func38, Tryd.ntmps38
    go_wp2_with fail
    refine HP.out.mono ?_
    rintro e w1 ⟨rfl, hb⟩
    have hb2 : Hid (Below w.heap.size w w1) := hb
    clear hb
    go_wp2
    go_ret
    exact ⟨rfl, hb2.out⟩
set_option maxRecDepth 100000 in
set_option maxHeartbeats 2000000 in
theorem ldrive_else (w : World) (p : Nat) (k l : Int) (row : ByteArray) (x : Bool) (n : Int) (r : Bool) (d wire : ByteArray) (s g : Int) (hk : k = 4 ∨ k = 5 ∨ k = 6) (h : LRow w p (lcs k l row x n r d wire s g)) :
    Calls Tryd.prog 38 #[bptr p] w fun e w' => e = .returned (dV true) ∧ Below w.heap.size w w' := by
  have c0 : w.cell? ⟨p, 0, none⟩ = some (.int .i64 k) := h.c 0 _ rfl
  have f0 : w.frozen? ⟨p, 0, none⟩ = false := h.f 0
  clear h
  rcases hk with rfl | rfl | rfl
  all_goals
    go_enter Tryd.func38, Tryd.ntmps38
    go_wp2
    go_ret
    exact ⟨rfl, Below.refl _ _⟩
end Go.Proofs.YtoohmpkhljfpbaaDoor
