/- Package mac, over the landed code: Sample. -/
import Derived.Test.YtoohmpkhljfpbaaDoorE4
import Derived.Test.YtoohmpkhljfpbaaDoorE5
import Derived.Test.YtoohmpkhljfpbaaDoorE6
namespace Go.Proofs.YtoohmpkhljfpbaaDoor
open Go.RowKit
set_option linter.unusedVariables false
theorem Told.of {w w' : World} {p : Nat} {evs : List Mm.Ev} {cs : Array Value} {sl : Option Addr} {cap : Nat} {e : Ending} (hE : EvAt w.heap.size w' sl cap evs) (hk : Kp p w w') (hm : LRow w' p cs) (he : e = .returned (.slice sl evs.length cap)) : Told w p evs cs e w' := ⟨sl, cap, he, hE, hk, hm⟩
/-- An append onto a list of events changes no block of the node. -/
theorem Kp.grown {p : Nat} {a b c : World} {k : Option Nat} (h : Kp p a b) (g : b.grownBy c k) (hk : ∀ j, k = some j → a.heap.size ≤ j) : Kp p a c :=
  ⟨g.os.trans h.os, g.tape.trans h.tape, g.output.trans h.output, Nat.le_trans h.size g.size, fun j hj hn => (g.block j (Nat.lt_of_lt_of_le hj h.size) (fun e => absurd (hk j e.symm) (Nat.not_le.2 hj))).trans (h.block j hj hn)⟩
theorem LRow.grown {w w' : World} {p : Nat} {cs : Array Value} {k : Option Nat} (h : LRow w p cs) (g : w.grownBy w' k) (hk : k ≠ some p) : LRow w' p cs := (g.block p h.lt (fun e => hk e.symm)).trans h
theorem EvAt.kp {B : Nat} {w w' : World} {s : Option Addr} {cap p : Nat} {l : List Mm.Ev} (h : EvAt B w s cap l) (hk : Kp p w w') (hp : p < B) : EvAt B w' s cap l :=
  h.on (fun g o e => hk.block g (h.zero g o e).2.2 (by have := (h.zero g o e).2.1; omega))
set_option maxRecDepth 100000 in
set_option maxHeartbeats 4000000 in
theorem lsamp0_48 (w : World) (p : Nat) (l : Int) (row : ByteArray) (x : Bool) (n : Nat) (r : Bool) (d wire : ByteArray) (s g : Int) (evs : List Mm.Ev) (cs : Array Value)
    (hR : Calls Tryd.prog 48 #[bptr p, .string ⟨#[48]⟩] w fun e w' => Told w p evs cs e w') (h : LRow w p (lcs 0 l row x n r d wire s g)) :
    Calls Tryd.prog 39 #[bptr p, .int .u8 48] w fun e w' => Told w p evs cs e w' := by
  have HR : Hid (Calls Tryd.prog 48 #[bptr p, .string ⟨#[48]⟩] w fun e w' => Told w p evs cs e w') := hR
  have c0 : w.cell? ⟨p, 0, none⟩ = some (.int .i64 0) := h.c 0 _ rfl
  have f0 : w.frozen? ⟨p, 0, none⟩ = false := h.f 0
  clear h hR
  go_enter Tryd.func39, Tryd.ntmps39
  go_wp2
  go_step3
  go_wp2
  go_step3
  go_wp2
  refine wp_loop_rounds 2 ?_
  rw [rounds_succ]
  go_wp2_with fail
  refine HR.out.mono ?_
  rintro e w1 hT
  have HT : Hid (Told w p evs cs e w1) := hT
  obtain ⟨sl, cap, rfl, hE, hk, hm⟩ := hT
  clear hE hk hm
  go_wp2
  go_ret
  exact HT.out
set_option maxRecDepth 100000 in
set_option maxHeartbeats 4000000 in
theorem lsamp5_48 (w : World) (p : Nat) (l : Int) (row : ByteArray) (x : Bool) (n : Nat) (r : Bool) (d wire : ByteArray) (s g : Int) (evs : List Mm.Ev) (cs : Array Value)
    (hR : Calls Tryd.prog 48 #[bptr p, .string ⟨#[48]⟩] w fun e w' => Told w p evs cs e w') (h : LRow w p (lcs 5 l row x n r d wire s g)) :
    Calls Tryd.prog 39 #[bptr p, .int .u8 48] w fun e w' => Told w p evs cs e w' := by
  have HR : Hid (Calls Tryd.prog 48 #[bptr p, .string ⟨#[48]⟩] w fun e w' => Told w p evs cs e w') := hR
  have c0 : w.cell? ⟨p, 0, none⟩ = some (.int .i64 5) := h.c 0 _ rfl
  have f0 : w.frozen? ⟨p, 0, none⟩ = false := h.f 0
  clear h hR
  go_enter Tryd.func39, Tryd.ntmps39
  go_wp2
  go_step3
  go_wp2
  go_step3
  go_wp2
  refine wp_loop_rounds 2 ?_
  rw [rounds_succ]
  go_wp2_with fail
  refine HR.out.mono ?_
  rintro e w1 hT
  have HT : Hid (Told w p evs cs e w1) := hT
  obtain ⟨sl, cap, rfl, hE, hk, hm⟩ := hT
  clear hE hk hm
  go_wp2
  go_ret
  exact HT.out
set_option maxRecDepth 100000 in
set_option maxHeartbeats 4000000 in
theorem lsamp1_48 (w : World) (p : Nat) (l : Int) (row : ByteArray) (x : Bool) (n : Nat) (r : Bool) (d wire : ByteArray) (s g : Int) (evs : List Mm.Ev) (cs : Array Value)
    (hL : ∀ w', Below w.heap.size w w' → Calls Tryd.prog 49 #[bptr p, .string ⟨#[48]⟩] w' fun e w'' => e = .returned (.bool false) ∧ Below w'.heap.size w' w'') (hS : ∀ w', Below w.heap.size w w' → Calls Tryd.prog 50 #[bptr p, .string ⟨#[48]⟩] w' fun e w'' => Told w' p evs cs e w'') (h : LRow w p (lcs 1 l row x n r d wire s g)) :
    Calls Tryd.prog 39 #[bptr p, .int .u8 48] w fun e w' => Told w p evs cs e w' := by
  have HL : Hid (∀ w', Below w.heap.size w w' → Calls Tryd.prog 49 #[bptr p, .string ⟨#[48]⟩] w' fun e w'' => e = .returned (.bool false) ∧ Below w'.heap.size w' w'') := hL
  have HS : Hid (∀ w', Below w.heap.size w w' → Calls Tryd.prog 50 #[bptr p, .string ⟨#[48]⟩] w' fun e w'' => Told w' p evs cs e w'') := hS
  have c0 : w.cell? ⟨p, 0, none⟩ = some (.int .i64 1) := h.c 0 _ rfl
  have f0 : w.frozen? ⟨p, 0, none⟩ = false := h.f 0
  clear h hL hS
  go_enter Tryd.func39, Tryd.ntmps39
  go_wp2
  go_step3
  go_wp2
  go_step3
  go_wp2
  refine wp_loop_rounds 2 ?_
  rw [rounds_succ]
  go_wp2_with fail
  refine (HL.out _ (Below.refl _ _)).mono ?_
  rintro e w1 ⟨rfl, hb⟩
  have HB : Hid (Below w.heap.size w w1) := hb
  clear hb
  go_wp2_with fail
  refine (HS.out _ HB.out).mono ?_
  rintro e w2 hT
  have HT : Hid (Told w p evs cs e w2) := Told.from (Kp.of HB.out) hT
  obtain ⟨sl, cap, rfl, hE, hk, hm⟩ := hT
  clear hE hk hm
  go_wp2
  go_ret
  exact HT.out
set_option maxRecDepth 100000 in
set_option maxHeartbeats 4000000 in
theorem lsamp4_48 (w : World) (p : Nat) (l : Int) (row : ByteArray) (x : Bool) (n : Nat) (r : Bool) (d wire : ByteArray) (s g : Int) (evs : List Mm.Ev) (cs : Array Value)
    (hR : Calls Tryd.prog 53 #[bptr p, .string ⟨#[48]⟩] w fun e w' => e = .returned (.tuple #[]) ∧ LRow w' p cs ∧ Kp p w w') (h : LRow w p (lcs 4 l row x n r d wire s g)) :
    Calls Tryd.prog 39 #[bptr p, .int .u8 48] w fun e w' => Told w p [] cs e w' := by
  have HR : Hid (Calls Tryd.prog 53 #[bptr p, .string ⟨#[48]⟩] w fun e w' => e = .returned (.tuple #[]) ∧ LRow w' p cs ∧ Kp p w w') := hR
  have c0 : w.cell? ⟨p, 0, none⟩ = some (.int .i64 4) := h.c 0 _ rfl
  have f0 : w.frozen? ⟨p, 0, none⟩ = false := h.f 0
  clear h hR
  go_enter Tryd.func39, Tryd.ntmps39
  go_wp2
  go_step3
  go_wp2
  go_step3
  go_wp2
  refine wp_loop_rounds 2 ?_
  rw [rounds_succ]
  go_wp2_with fail
  refine HR.out.mono ?_
  rintro e w1 ⟨rfl, h1, h2⟩
  have HM : Hid (LRow w1 p cs) := h1
  have HK : Hid (Kp p w w1) := h2
  clear h1 h2
  go_wp2
  go_ret
  exact ⟨_, _, rfl, EvAt.empty _ _, HK.out, HM.out⟩
set_option maxRecDepth 100000 in
set_option maxHeartbeats 4000000 in
theorem lsamp3_48 (w : World) (p : Nat) (l : Int) (row : ByteArray) (x : Bool) (n : Nat) (r : Bool) (d wire : ByteArray) (s g : Int) (evs : List Mm.Ev) (cs : Array Value)
    (k' l' : Int) (hR : ∀ w, Calls Tryd.prog 54 #[phV 3 l] w fun e w' => e = .returned (phV k' l') ∧ Below w.heap.size w w') (h : LRow w p (lcs 3 l row x n r d wire s g)) :
    Calls Tryd.prog 39 #[bptr p, .int .u8 48] w fun e w' => Told w p [] (lcs k' l' row x n r d wire s g) e w' := by
  have HR : Hid (∀ w, Calls Tryd.prog 54 #[phV 3 l] w fun e w' => e = .returned (phV k' l') ∧ Below w.heap.size w w') := hR
  have HM : Hid (LRow w p (lcs 3 l row x n r d wire s g)) := h
  have c0 : w.cell? ⟨p, 0, none⟩ = some (.int .i64 3) := h.c 0 _ rfl
  have f0 : w.frozen? ⟨p, 0, none⟩ = false := h.f 0
  have c1 : w.cell? ⟨p, 1, none⟩ = some (.int .i64 l) := h.c 1 _ rfl
  have f1 : w.frozen? ⟨p, 1, none⟩ = false := h.f 1
  clear h hR
  go_enter Tryd.func39, Tryd.ntmps39
  go_wp2
  go_step3
  go_wp2
  go_step3
  go_wp2
  refine wp_loop_rounds 2 ?_
  rw [rounds_succ]
  go_wp2_with fail
  refine (HR.out _).mono ?_
  rintro e w1 ⟨rfl, hb⟩
  have hm := HM.out.on hb
  have HM2 : Hid (LRow w1 p (lcs 3 l row x n r d wire s g)) := hm
  have HK : Hid (Kp p w w1) := Kp.of hb
  clear c0 c1 f0 f1
  have c0 : w1.cell? ⟨p, 0, none⟩ = some (.int .i64 3) := hm.c 0 _ rfl
  have f0 : w1.frozen? ⟨p, 0, none⟩ = false := hm.f 0
  have c1 : w1.cell? ⟨p, 1, none⟩ = some (.int .i64 l) := hm.c 1 _ rfl
  have f1 : w1.frozen? ⟨p, 1, none⟩ = false := hm.f 1
  clear hb HM hm
  go_wp2
  go_ret
  exact ⟨_, _, rfl, EvAt.empty _ _, Kp.set1 (Kp.set1 HK.out), (HM2.out.set 0 _).set 1 _⟩
set_option maxRecDepth 100000 in
set_option maxHeartbeats 4000000 in
theorem lsamp6_48 (w : World) (p : Nat) (l : Int) (row : ByteArray) (x : Bool) (n : Nat) (r : Bool) (d wire : ByteArray) (s g : Int) (evs : List Mm.Ev) (cs : Array Value)
     (h : LRow w p (lcs 6 l row x n r d wire s g)) :
    Calls Tryd.prog 39 #[bptr p, .int .u8 48] w fun e w' => Told w p [] (lcs 6 l row x n r d wire s g) e w' := by
  have HM : Hid (LRow w p (lcs 6 l row x n r d wire s g)) := h
  have c0 : w.cell? ⟨p, 0, none⟩ = some (.int .i64 6) := h.c 0 _ rfl
  have f0 : w.frozen? ⟨p, 0, none⟩ = false := h.f 0
  clear h
  go_enter Tryd.func39, Tryd.ntmps39
  go_wp2
  go_step3
  go_wp2
  go_step3
  go_wp2
  refine wp_loop_rounds 2 ?_
  rw [rounds_succ]
  go_wp2
  go_ret
  exact ⟨_, _, rfl, EvAt.empty _ _, Kept.refl _ w, HM.out⟩
set_option maxRecDepth 100000 in
set_option maxHeartbeats 4000000 in
theorem lsamp2_48 (w : World) (p : Nat) (l : Int) (row : ByteArray) (x : Bool) (n : Nat) (r : Bool) (d wire : ByteArray) (s g : Int) (evs : List Mm.Ev) (cs : Array Value)
    (hn : evs.length ≤ 2) (hR : Calls Tryd.prog 52 #[bptr p, .string ⟨#[48]⟩] w fun e w' => Told w p evs cs e w') (h : LRow w p (lcs 2 l row x n r d wire s g)) :
    Calls Tryd.prog 39 #[bptr p, .int .u8 48] w fun e w' => Told w p evs cs e w' := by
  have HR : Hid (Calls Tryd.prog 52 #[bptr p, .string ⟨#[48]⟩] w fun e w' => Told w p evs cs e w') := hR
  have hlt := h.lt
  have c0 : w.cell? ⟨p, 0, none⟩ = some (.int .i64 2) := h.c 0 _ rfl
  have f0 : w.frozen? ⟨p, 0, none⟩ = false := h.f 0
  clear h hR
  go_enter Tryd.func39, Tryd.ntmps39
  go_wp2
  go_step3
  go_wp2
  go_step3
  go_wp2
  refine wp_loop_rounds 2 ?_
  rw [rounds_succ]
  go_wp2_with fail
  refine HR.out.mono ?_
  rintro e w1 ⟨sl, cap, rfl, hE, hk, hm⟩
  have HE : Hid (EvAt w.heap.size w1 sl cap evs) := hE
  have HK : Hid (Kp p w w1) := hk
  have HM : Hid (LRow w1 p cs) := hm
  have hsz := hk.size
  clear hE hk hm c0 f0
  go_wp2_with (refine wpList_append_ev rfl (.tmp 45) (.tmp 48) rfl (B := w.heap.size) (s := none) (n := 0) (cap := 0) (l := []) (l2 := evs) rfl rfl rfl rfl (EvAt.empty _ _) HE.out hsz (by simp; omega) ?_; intro sd cd wd Ed' Gd' Nd'; have HE2 : Hid (EvAt w.heap.size wd sd cd evs) := Ed'; have HK2 : Hid (Kp p w wd) := HK.out.grown Gd' (fun j h => by cases h); have HM2 : Hid (LRow wd p cs) := HM.out.grown Gd' (fun h => by cases h); clear Ed' Gd' Nd')
  go_ret
  exact ⟨sd, cd, by simp, HE2.out, HK2.out, HM2.out⟩
set_option maxRecDepth 100000 in
set_option maxHeartbeats 4000000 in
theorem lsamp0_49 (w : World) (p : Nat) (l : Int) (row : ByteArray) (x : Bool) (n : Nat) (r : Bool) (d wire : ByteArray) (s g : Int) (c : UInt8) (hc : ((c.toNat : Int) == 48) = false) (evs : List Mm.Ev) (cs : Array Value)
    (hR : Calls Tryd.prog 48 #[bptr p, .string ⟨#[49]⟩] w fun e w' => Told w p evs cs e w') (h : LRow w p (lcs 0 l row x n r d wire s g)) :
    Calls Tryd.prog 39 #[bptr p, .int .u8 (c.toNat : Int)] w fun e w' => Told w p evs cs e w' := by
  have HR : Hid (Calls Tryd.prog 48 #[bptr p, .string ⟨#[49]⟩] w fun e w' => Told w p evs cs e w') := hR
  have c0 : w.cell? ⟨p, 0, none⟩ = some (.int .i64 0) := h.c 0 _ rfl
  have f0 : w.frozen? ⟨p, 0, none⟩ = false := h.f 0
  clear h hR
  go_enter Tryd.func39, Tryd.ntmps39
  go_wp2
  go_step3
  go_wp2
  go_step3
  go_wp2
  refine wp_loop_rounds 2 ?_
  rw [rounds_succ]
  go_wp2_with fail
  refine HR.out.mono ?_
  rintro e w1 hT
  have HT : Hid (Told w p evs cs e w1) := hT
  obtain ⟨sl, cap, rfl, hE, hk, hm⟩ := hT
  clear hE hk hm
  go_wp2
  go_ret
  exact HT.out
set_option maxRecDepth 100000 in
set_option maxHeartbeats 4000000 in
theorem lsamp5_49 (w : World) (p : Nat) (l : Int) (row : ByteArray) (x : Bool) (n : Nat) (r : Bool) (d wire : ByteArray) (s g : Int) (c : UInt8) (hc : ((c.toNat : Int) == 48) = false) (evs : List Mm.Ev) (cs : Array Value)
    (hR : Calls Tryd.prog 48 #[bptr p, .string ⟨#[49]⟩] w fun e w' => Told w p evs cs e w') (h : LRow w p (lcs 5 l row x n r d wire s g)) :
    Calls Tryd.prog 39 #[bptr p, .int .u8 (c.toNat : Int)] w fun e w' => Told w p evs cs e w' := by
  have HR : Hid (Calls Tryd.prog 48 #[bptr p, .string ⟨#[49]⟩] w fun e w' => Told w p evs cs e w') := hR
  have c0 : w.cell? ⟨p, 0, none⟩ = some (.int .i64 5) := h.c 0 _ rfl
  have f0 : w.frozen? ⟨p, 0, none⟩ = false := h.f 0
  clear h hR
  go_enter Tryd.func39, Tryd.ntmps39
  go_wp2
  go_step3
  go_wp2
  go_step3
  go_wp2
  refine wp_loop_rounds 2 ?_
  rw [rounds_succ]
  go_wp2_with fail
  refine HR.out.mono ?_
  rintro e w1 hT
  have HT : Hid (Told w p evs cs e w1) := hT
  obtain ⟨sl, cap, rfl, hE, hk, hm⟩ := hT
  clear hE hk hm
  go_wp2
  go_ret
  exact HT.out
set_option maxRecDepth 100000 in
set_option maxHeartbeats 4000000 in
theorem lsamp1_49 (w : World) (p : Nat) (l : Int) (row : ByteArray) (x : Bool) (n : Nat) (r : Bool) (d wire : ByteArray) (s g : Int) (c : UInt8) (hc : ((c.toNat : Int) == 48) = false) (evs : List Mm.Ev) (cs : Array Value)
    (hL : ∀ w', Below w.heap.size w w' → Calls Tryd.prog 49 #[bptr p, .string ⟨#[49]⟩] w' fun e w'' => e = .returned (.bool false) ∧ Below w'.heap.size w' w'') (hS : ∀ w', Below w.heap.size w w' → Calls Tryd.prog 50 #[bptr p, .string ⟨#[49]⟩] w' fun e w'' => Told w' p evs cs e w'') (h : LRow w p (lcs 1 l row x n r d wire s g)) :
    Calls Tryd.prog 39 #[bptr p, .int .u8 (c.toNat : Int)] w fun e w' => Told w p evs cs e w' := by
  have HL : Hid (∀ w', Below w.heap.size w w' → Calls Tryd.prog 49 #[bptr p, .string ⟨#[49]⟩] w' fun e w'' => e = .returned (.bool false) ∧ Below w'.heap.size w' w'') := hL
  have HS : Hid (∀ w', Below w.heap.size w w' → Calls Tryd.prog 50 #[bptr p, .string ⟨#[49]⟩] w' fun e w'' => Told w' p evs cs e w'') := hS
  have c0 : w.cell? ⟨p, 0, none⟩ = some (.int .i64 1) := h.c 0 _ rfl
  have f0 : w.frozen? ⟨p, 0, none⟩ = false := h.f 0
  clear h hL hS
  go_enter Tryd.func39, Tryd.ntmps39
  go_wp2
  go_step3
  go_wp2
  go_step3
  go_wp2
  refine wp_loop_rounds 2 ?_
  rw [rounds_succ]
  go_wp2_with fail
  refine (HL.out _ (Below.refl _ _)).mono ?_
  rintro e w1 ⟨rfl, hb⟩
  have HB : Hid (Below w.heap.size w w1) := hb
  clear hb
  go_wp2_with fail
  refine (HS.out _ HB.out).mono ?_
  rintro e w2 hT
  have HT : Hid (Told w p evs cs e w2) := Told.from (Kp.of HB.out) hT
  obtain ⟨sl, cap, rfl, hE, hk, hm⟩ := hT
  clear hE hk hm
  go_wp2
  go_ret
  exact HT.out
set_option maxRecDepth 100000 in
set_option maxHeartbeats 4000000 in
theorem lsamp4_49 (w : World) (p : Nat) (l : Int) (row : ByteArray) (x : Bool) (n : Nat) (r : Bool) (d wire : ByteArray) (s g : Int) (c : UInt8) (hc : ((c.toNat : Int) == 48) = false) (evs : List Mm.Ev) (cs : Array Value)
    (hR : Calls Tryd.prog 53 #[bptr p, .string ⟨#[49]⟩] w fun e w' => e = .returned (.tuple #[]) ∧ LRow w' p cs ∧ Kp p w w') (h : LRow w p (lcs 4 l row x n r d wire s g)) :
    Calls Tryd.prog 39 #[bptr p, .int .u8 (c.toNat : Int)] w fun e w' => Told w p [] cs e w' := by
  have HR : Hid (Calls Tryd.prog 53 #[bptr p, .string ⟨#[49]⟩] w fun e w' => e = .returned (.tuple #[]) ∧ LRow w' p cs ∧ Kp p w w') := hR
  have c0 : w.cell? ⟨p, 0, none⟩ = some (.int .i64 4) := h.c 0 _ rfl
  have f0 : w.frozen? ⟨p, 0, none⟩ = false := h.f 0
  clear h hR
  go_enter Tryd.func39, Tryd.ntmps39
  go_wp2
  go_step3
  go_wp2
  go_step3
  go_wp2
  refine wp_loop_rounds 2 ?_
  rw [rounds_succ]
  go_wp2_with fail
  refine HR.out.mono ?_
  rintro e w1 ⟨rfl, h1, h2⟩
  have HM : Hid (LRow w1 p cs) := h1
  have HK : Hid (Kp p w w1) := h2
  clear h1 h2
  go_wp2
  go_ret
  exact ⟨_, _, rfl, EvAt.empty _ _, HK.out, HM.out⟩
set_option maxRecDepth 100000 in
set_option maxHeartbeats 4000000 in
theorem lsamp3_49 (w : World) (p : Nat) (l : Int) (row : ByteArray) (x : Bool) (n : Nat) (r : Bool) (d wire : ByteArray) (s g : Int) (c : UInt8) (hc : ((c.toNat : Int) == 48) = false) (evs : List Mm.Ev) (cs : Array Value)
    (k' l' : Int) (hR : ∀ w, Calls Tryd.prog 54 #[phV 3 l] w fun e w' => e = .returned (phV k' l') ∧ Below w.heap.size w w') (h : LRow w p (lcs 3 l row x n r d wire s g)) :
    Calls Tryd.prog 39 #[bptr p, .int .u8 (c.toNat : Int)] w fun e w' => Told w p [] (lcs k' l' row x n r d wire s g) e w' := by
  have HR : Hid (∀ w, Calls Tryd.prog 54 #[phV 3 l] w fun e w' => e = .returned (phV k' l') ∧ Below w.heap.size w w') := hR
  have HM : Hid (LRow w p (lcs 3 l row x n r d wire s g)) := h
  have c0 : w.cell? ⟨p, 0, none⟩ = some (.int .i64 3) := h.c 0 _ rfl
  have f0 : w.frozen? ⟨p, 0, none⟩ = false := h.f 0
  have c1 : w.cell? ⟨p, 1, none⟩ = some (.int .i64 l) := h.c 1 _ rfl
  have f1 : w.frozen? ⟨p, 1, none⟩ = false := h.f 1
  clear h hR
  go_enter Tryd.func39, Tryd.ntmps39
  go_wp2
  go_step3
  go_wp2
  go_step3
  go_wp2
  refine wp_loop_rounds 2 ?_
  rw [rounds_succ]
  go_wp2_with fail
  refine (HR.out _).mono ?_
  rintro e w1 ⟨rfl, hb⟩
  have hm := HM.out.on hb
  have HM2 : Hid (LRow w1 p (lcs 3 l row x n r d wire s g)) := hm
  have HK : Hid (Kp p w w1) := Kp.of hb
  clear c0 c1 f0 f1
  have c0 : w1.cell? ⟨p, 0, none⟩ = some (.int .i64 3) := hm.c 0 _ rfl
  have f0 : w1.frozen? ⟨p, 0, none⟩ = false := hm.f 0
  have c1 : w1.cell? ⟨p, 1, none⟩ = some (.int .i64 l) := hm.c 1 _ rfl
  have f1 : w1.frozen? ⟨p, 1, none⟩ = false := hm.f 1
  clear hb HM hm
  go_wp2
  go_ret
  exact ⟨_, _, rfl, EvAt.empty _ _, Kp.set1 (Kp.set1 HK.out), (HM2.out.set 0 _).set 1 _⟩
set_option maxRecDepth 100000 in
set_option maxHeartbeats 4000000 in
theorem lsamp6_49 (w : World) (p : Nat) (l : Int) (row : ByteArray) (x : Bool) (n : Nat) (r : Bool) (d wire : ByteArray) (s g : Int) (c : UInt8) (hc : ((c.toNat : Int) == 48) = false) (evs : List Mm.Ev) (cs : Array Value)
     (h : LRow w p (lcs 6 l row x n r d wire s g)) :
    Calls Tryd.prog 39 #[bptr p, .int .u8 (c.toNat : Int)] w fun e w' => Told w p [] (lcs 6 l row x n r d wire s g) e w' := by
  have HM : Hid (LRow w p (lcs 6 l row x n r d wire s g)) := h
  have c0 : w.cell? ⟨p, 0, none⟩ = some (.int .i64 6) := h.c 0 _ rfl
  have f0 : w.frozen? ⟨p, 0, none⟩ = false := h.f 0
  clear h
  go_enter Tryd.func39, Tryd.ntmps39
  go_wp2
  go_step3
  go_wp2
  go_step3
  go_wp2
  refine wp_loop_rounds 2 ?_
  rw [rounds_succ]
  go_wp2
  go_ret
  exact ⟨_, _, rfl, EvAt.empty _ _, Kept.refl _ w, HM.out⟩
set_option maxRecDepth 100000 in
set_option maxHeartbeats 4000000 in
theorem lsamp2_49 (w : World) (p : Nat) (l : Int) (row : ByteArray) (x : Bool) (n : Nat) (r : Bool) (d wire : ByteArray) (s g : Int) (c : UInt8) (hc : ((c.toNat : Int) == 48) = false) (evs : List Mm.Ev) (cs : Array Value)
    (hn : evs.length ≤ 2) (hR : Calls Tryd.prog 52 #[bptr p, .string ⟨#[49]⟩] w fun e w' => Told w p evs cs e w') (h : LRow w p (lcs 2 l row x n r d wire s g)) :
    Calls Tryd.prog 39 #[bptr p, .int .u8 (c.toNat : Int)] w fun e w' => Told w p evs cs e w' := by
  have HR : Hid (Calls Tryd.prog 52 #[bptr p, .string ⟨#[49]⟩] w fun e w' => Told w p evs cs e w') := hR
  have hlt := h.lt
  have c0 : w.cell? ⟨p, 0, none⟩ = some (.int .i64 2) := h.c 0 _ rfl
  have f0 : w.frozen? ⟨p, 0, none⟩ = false := h.f 0
  clear h hR
  go_enter Tryd.func39, Tryd.ntmps39
  go_wp2
  go_step3
  go_wp2
  go_step3
  go_wp2
  refine wp_loop_rounds 2 ?_
  rw [rounds_succ]
  go_wp2_with fail
  refine HR.out.mono ?_
  rintro e w1 ⟨sl, cap, rfl, hE, hk, hm⟩
  have HE : Hid (EvAt w.heap.size w1 sl cap evs) := hE
  have HK : Hid (Kp p w w1) := hk
  have HM : Hid (LRow w1 p cs) := hm
  have hsz := hk.size
  clear hE hk hm c0 f0
  go_wp2_with (refine wpList_append_ev rfl (.tmp 45) (.tmp 48) rfl (B := w.heap.size) (s := none) (n := 0) (cap := 0) (l := []) (l2 := evs) rfl rfl rfl rfl (EvAt.empty _ _) HE.out hsz (by simp; omega) ?_; intro sd cd wd Ed' Gd' Nd'; have HE2 : Hid (EvAt w.heap.size wd sd cd evs) := Ed'; have HK2 : Hid (Kp p w wd) := HK.out.grown Gd' (fun j h => by cases h); have HM2 : Hid (LRow wd p cs) := HM.out.grown Gd' (fun h => by cases h); clear Ed' Gd' Nd')
  go_ret
  exact ⟨sd, cd, by simp, HE2.out, HK2.out, HM2.out⟩
set_option maxRecDepth 100000 in
set_option maxHeartbeats 4000000 in
theorem lsamp_lost (w : World) (p : Nat) (l : Int) (row : ByteArray) (x : Bool) (n : Nat) (r : Bool) (d wire : ByteArray) (s g : Int) (evs : List Mm.Ev) (cs : Array Value) (hn : evs.length ≤ 2)
    (hL : ∀ w', Below w.heap.size w w' → Calls Tryd.prog 49 #[bptr p, .string ⟨#[48]⟩] w' fun e w'' => e = .returned (.bool true) ∧ Below w'.heap.size w' w'') (hH : ∀ w', Kp p w w' → LRow w' p (lcs 2 0 row false 0 false ⟨#[]⟩ ⟨#[]⟩ s g) → Calls Tryd.prog 52 #[bptr p, .string ⟨#[48]⟩] w' fun e w'' => Told w' p evs cs e w'') (h : LRow w p (lcs 1 l row x n r d wire s g)) :
    Calls Tryd.prog 39 #[bptr p, .int .u8 48] w fun e w' => Told w p (⟨3, (x, n, r, d.data.toList), 0⟩ :: evs) cs e w' := by
  have HL : Hid (∀ w', Below w.heap.size w w' → Calls Tryd.prog 49 #[bptr p, .string ⟨#[48]⟩] w' fun e w'' => e = .returned (.bool true) ∧ Below w'.heap.size w' w'') := hL
  have HH : Hid (∀ w', Kp p w w' → LRow w' p (lcs 2 0 row false 0 false ⟨#[]⟩ ⟨#[]⟩ s g) → Calls Tryd.prog 52 #[bptr p, .string ⟨#[48]⟩] w' fun e w'' => Told w' p evs cs e w'') := hH
  have HM : Hid (LRow w p (lcs 1 l row x n r d wire s g)) := h
  have hlt := h.lt
  have c0 : w.cell? ⟨p, 0, none⟩ = some (.int .i64 1) := h.c 0 _ rfl
  have f0 : w.frozen? ⟨p, 0, none⟩ = false := h.f 0
  clear h hL hH
  go_enter Tryd.func39, Tryd.ntmps39
  go_wp2
  go_step3
  go_wp2
  go_step3
  go_wp2
  refine wp_loop_rounds 2 ?_
  rw [rounds_succ]
  go_wp2_with fail
  refine (HL.out _ (Below.refl _ _)).mono ?_
  rintro e w1 ⟨rfl, hb⟩
  have hm := HM.out.on hb
  have HM1 : Hid (LRow w1 p (lcs 1 l row x n r d wire s g)) := hm
  have HK1 : Hid (Kp p w w1) := Kp.of hb
  have hs1 := hb.size
  clear c0 f0
  have c3 : w1.cell? ⟨p, 3, none⟩ = some (.bool x) := hm.c 3 _ rfl
  have f3 : w1.frozen? ⟨p, 3, none⟩ = false := hm.f 3
  have c4 : w1.cell? ⟨p, 4, none⟩ = some (.int .u32 n) := hm.c 4 _ rfl
  have f4 : w1.frozen? ⟨p, 4, none⟩ = false := hm.f 4
  have c5 : w1.cell? ⟨p, 5, none⟩ = some (.bool r) := hm.c 5 _ rfl
  have f5 : w1.frozen? ⟨p, 5, none⟩ = false := hm.f 5
  have c6 : w1.cell? ⟨p, 6, none⟩ = some (.string d) := hm.c 6 _ rfl
  have f6 : w1.frozen? ⟨p, 6, none⟩ = false := hm.f 6
  have a3 : ∀ o, (w1.alloc o).cell? ⟨p, 3, none⟩ = some (.bool x) := fun o => (hm.alloc o).c 3 _ rfl
  have b3 : ∀ o, (w1.alloc o).frozen? ⟨p, 3, none⟩ = false := fun o => (hm.alloc o).f 3
  have a4 : ∀ o, (w1.alloc o).cell? ⟨p, 4, none⟩ = some (.int .u32 n) := fun o => (hm.alloc o).c 4 _ rfl
  have b4 : ∀ o, (w1.alloc o).frozen? ⟨p, 4, none⟩ = false := fun o => (hm.alloc o).f 4
  have a5 : ∀ o, (w1.alloc o).cell? ⟨p, 5, none⟩ = some (.bool r) := fun o => (hm.alloc o).c 5 _ rfl
  have b5 : ∀ o, (w1.alloc o).frozen? ⟨p, 5, none⟩ = false := fun o => (hm.alloc o).f 5
  have a6 : ∀ o, (w1.alloc o).cell? ⟨p, 6, none⟩ = some (.string d) := fun o => (hm.alloc o).c 6 _ rfl
  have b6 : ∀ o, (w1.alloc o).frozen? ⟨p, 6, none⟩ = false := fun o => (hm.alloc o).f 6
  clear hm hb HM HL
  have HEo : Hid (EvAt w1.heap.size (w1.alloc (.cells #[.int .i64 3, .bool x, .int .u32 (n : Int), .bool r, .string d, .int .i64 0] 39)) (some ⟨w1.heap.size, 0, none⟩) 1 [⟨3, (x, n, r, d.data.toList), 0⟩]) := EvAt.one (alloc_at rfl) (Nat.le_refl _)
  have HBo : Hid (w.heap.size ≤ (w1.alloc (.cells #[.int .i64 3, .bool x, .int .u32 (n : Int), .bool r, .string d, .int .i64 0] 39)).heap.size) := Nat.le_trans hs1 (by simp)
  go_wp2_with (refine wpList_append_ev rfl (.tmp 29) (.tmp 35) rfl (B := w.heap.size) (B2 := w1.heap.size) (s := none) (n := 0) (cap := 0) (l := []) (l2 := [⟨3, (x, n, r, d.data.toList), 0⟩]) rfl rfl rfl rfl (EvAt.empty _ _) HEo.out HBo.out (Nat.le_of_ble_eq_true rfl) ?_; intro sd cd wd Ed' Gd' Nd'; have HE2 : Hid (EvAt w.heap.size wd sd cd [⟨3, (x, n, r, d.data.toList), 0⟩]) := Ed'; have HK2 : Hid (Kp p w wd) := (Kp.alloc HK1.out _).grown Gd' (fun j h => by cases h); have HM2 : Hid (LRow wd p (lcs 1 l row x n r d wire s g)) := (HM1.out.alloc _).grown Gd' (fun h => by cases h); clear Ed' Gd' Nd' c3 c4 c5 c6 f3 f4 f5 f6 a3 a4 a5 a6 b3 b4 b5 b6)
  refine (ldrop_any _ p 1 l row x n r d wire s g HM2.out).mono ?_
  rintro e w2 ⟨rfl, h1, h2⟩
  have HM3 : Hid (LRow w2 p (lcs 1 l row false 0 false ⟨#[]⟩ ⟨#[]⟩ s g)) := h1
  have HK3 : Hid (Kp p w w2) := HK2.out.then h2
  have HE3 : Hid (EvAt w.heap.size w2 sd cd [⟨3, (x, n, r, d.data.toList), 0⟩]) := HE2.out.kp h2 hlt
  have c0 : w2.cell? ⟨p, 0, none⟩ = some (.int .i64 1) := h1.c 0 _ rfl
  have f0 : w2.frozen? ⟨p, 0, none⟩ = false := h1.f 0
  have c1 : w2.cell? ⟨p, 1, none⟩ = some (.int .i64 l) := h1.c 1 _ rfl
  have f1 : w2.frozen? ⟨p, 1, none⟩ = false := h1.f 1
  clear h1 h2 HM1 HK1 HE2 HK2 HM2
  go_wp2
  have HM4 : Hid (LRow ((w2.setCell ⟨p, 0, none⟩ (.int .i64 2)).setCell ⟨p, 1, none⟩ (.int .i64 0)) p (lcs 2 0 row false 0 false ⟨#[]⟩ ⟨#[]⟩ s g)) := (HM3.out.set 0 _).set 1 _
  have HK4 : Hid (Kp p w ((w2.setCell ⟨p, 0, none⟩ (.int .i64 2)).setCell ⟨p, 1, none⟩ (.int .i64 0))) := Kp.set1 (Kp.set1 HK3.out)
  have HE4 : Hid (EvAt w.heap.size ((w2.setCell ⟨p, 0, none⟩ (.int .i64 2)).setCell ⟨p, 1, none⟩ (.int .i64 0)) sd cd [⟨3, (x, n, r, d.data.toList), 0⟩]) := HE3.out.kp (Kp.set1 (Kp.set1 (Kept.refl _ w2))) hlt
  clear c0 c1 f0 f1 HM3 HK3 HE3
  generalize (w2.setCell ⟨p, 0, none⟩ (.int .i64 2)).setCell ⟨p, 1, none⟩ (.int .i64 0) = w3 at *
  have hm := HM4.out
  have c0 : w3.cell? ⟨p, 0, none⟩ = some (.int .i64 2) := hm.c 0 _ rfl
  have f0 : w3.frozen? ⟨p, 0, none⟩ = false := hm.f 0
  clear hm
  rw [rounds_succ]
  go_wp2_with fail
  refine (HH.out _ HK4.out HM4.out).mono ?_
  rintro e w4 ⟨sl, cap, rfl, hE, hk, hm⟩
  have HE : Hid (EvAt w.heap.size w4 sl cap evs) := hE.base HK4.out.size
  have HE5 : Hid (EvAt w.heap.size w4 sd cd [⟨3, (x, n, r, d.data.toList), 0⟩]) := HE4.out.kp hk hlt
  have HK : Hid (Kp p w w4) := HK4.out.then hk
  have HM : Hid (LRow w4 p cs) := hm
  have hsz : w.heap.size ≤ w4.heap.size := HK.out.size
  have hz : ∀ j o, sd = some ⟨j, o, none⟩ → w.heap.size ≤ j := fun j o e => (HE5.out.zero j o e).2.1
  have hpl := HE5.out.plain
  have HZ : Hid (∀ j, sd.map (·.block) = some j → w.heap.size ≤ j) := fun j h => by
    cases sd with
    | none => cases h
    | some a =>
      obtain ⟨b, o, sp⟩ := a
      obtain rfl : sp = none := hpl _ rfl
      have h : some b = some j := h
      injection h with h
      subst h
      exact hz b o rfl
  clear hE hk hm c0 f0 hz hpl HE4 HK4 HM4
  go_wp2_with (refine wpList_append_ev rfl (.tmp 45) (.tmp 48) rfl (B := w.heap.size) (l := [⟨3, (x, n, r, d.data.toList), 0⟩]) (l2 := evs) rfl rfl rfl rfl HE5.out HE.out hsz (by simp; omega) ?_; intro se ce we Ed' Gd' Nd'; have HE2 : Hid (EvAt w.heap.size we se ce (⟨3, (x, n, r, d.data.toList), 0⟩ :: evs)) := Ed'; have HK2 : Hid (Kp p w we) := HK.out.grown Gd' HZ.out; have HM2 : Hid (LRow we p cs) := HM.out.grown Gd' (fun h => by have := HZ.out p h; omega); clear Ed' Gd' Nd')
  go_ret
  exact ⟨se, ce, by simp [Nat.add_comm], HE2.out, HK2.out, HM2.out⟩
end Go.Proofs.YtoohmpkhljfpbaaDoor
