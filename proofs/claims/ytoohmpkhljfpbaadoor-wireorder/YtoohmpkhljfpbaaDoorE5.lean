/- Package mac, over the landed code: send. -/
import Derived.Test.YtoohmpkhljfpbaaDoorE3
namespace Go.Proofs.YtoohmpkhljfpbaaDoor
open Go.RowKit
set_option linter.unusedVariables false
set_option maxRecDepth 100000 in
set_option maxHeartbeats 4000000 in
theorem lsend_ack (w : World) (p : Nat) (row : ByteArray) (x : Bool) (n : Nat) (r : Bool) (d wire : ByteArray) (s g : Int) (hc : Km.isC s g = true) (h : LRow w p (lcs 1 9 row x n r d wire s g)) :
    Calls Tryd.prog 50 #[bptr p, .string ⟨#[49]⟩] w fun e w' => Told w p (fev (Km.sentS s g false) ⟨4, (x, n, r, d.data.toList), 71⟩) (lcs (fkl (Km.sentS s g false)).1 (fkl (Km.sentS s g false)).2 ⟨#[]⟩ false 0 false ⟨#[]⟩ ⟨#[]⟩ (Km.sentS s g false) g) e w' := by
  have hlt := h.lt
  have HM : Hid (LRow w p (lcs 1 9 row x n r d wire s g)) := h
  have HF : Hid (Calls Tryd.prog 68 #[bptr p, .int .i64 71] w fun e w' => Told w p (fev (Km.sentS s g false) ⟨4, (x, n, r, d.data.toList), 71⟩) (lcs (fkl (Km.sentS s g false)).1 (fkl (Km.sentS s g false)).2 ⟨#[]⟩ false 0 false ⟨#[]⟩ ⟨#[]⟩ (Km.sentS s g false) g) e w') := lfail_any w p 1 9 row x n r d wire s g 71 (by decide) hc h
  have c0 : w.cell? ⟨p, 0, none⟩ = some (.int .i64 1) := h.c 0 _ rfl
  have f0 : w.frozen? ⟨p, 0, none⟩ = false := h.f 0
  have c1 : w.cell? ⟨p, 1, none⟩ = some (.int .i64 9) := h.c 1 _ rfl
  have f1 : w.frozen? ⟨p, 1, none⟩ = false := h.f 1
  have a0 : ∀ o, (w.alloc o).cell? ⟨p, 0, none⟩ = some (.int .i64 1) := fun o => (h.alloc o).c 0 _ rfl
  have b0 : ∀ o, (w.alloc o).frozen? ⟨p, 0, none⟩ = false := fun o => (h.alloc o).f 0
  have a1 : ∀ o, (w.alloc o).cell? ⟨p, 1, none⟩ = some (.int .i64 9) := fun o => (h.alloc o).c 1 _ rfl
  have b1 : ∀ o, (w.alloc o).frozen? ⟨p, 1, none⟩ = false := fun o => (h.alloc o).f 1
  generalize fev (Km.sentS s g false) ⟨4, (x, n, r, d.data.toList), 71⟩ = EV at *
  generalize (fkl (Km.sentS s g false)).1 = K1 at *
  generalize (fkl (Km.sentS s g false)).2 = K2 at *
  generalize Km.sentS s g false = S' at *
  clear h hc
  go_enter Tryd.func50, Tryd.ntmps50
  go_wp2_with fail
  refine HF.out.mono ?_
  rintro e w3 hR
  have HR : Hid (Told w p EV (lcs K1 K2 ⟨#[]⟩ false 0 false ⟨#[]⟩ ⟨#[]⟩ S' g) e w3) := hR
  obtain ⟨sl, cap, rfl, hE, hk, hm⟩ := hR
  clear hE hk hm
  go_wp2
  go_ret
  exact HR.out
set_option maxRecDepth 100000 in
set_option maxHeartbeats 4000000 in
theorem lsend_bit (w : World) (p : Nat) (l : Int) (row : ByteArray) (x : Bool) (n : Nat) (r : Bool) (d wire : ByteArray) (s g : Int) (c : Bool) (hl : (l == 9) = false) (hc : Km.isC s g = true)
    (hN : ∀ w', Below w.heap.size w w' → Calls Tryd.prog 46 #[bptr p] w' fun e w'' => e = .returned (dV (!c)) ∧ Below w'.heap.size w' w'') (h : LRow w p (lcs 1 l row x n r d wire s g)) :
    Calls Tryd.prog 50 #[bptr p, .string ⟨#[if c then 49 else 48]⟩] w fun e w' => Told w p (fev (Km.sentS s g false) ⟨4, (x, n, r, d.data.toList), 70⟩) (lcs (fkl (Km.sentS s g false)).1 (fkl (Km.sentS s g false)).2 ⟨#[]⟩ false 0 false ⟨#[]⟩ ⟨#[]⟩ (Km.sentS s g false) g) e w' := by
  have hlt := h.lt
  have HM : Hid (LRow w p (lcs 1 l row x n r d wire s g)) := h
  have HN : Hid (∀ w', Below w.heap.size w w' → Calls Tryd.prog 46 #[bptr p] w' fun e w'' => e = .returned (dV (!c)) ∧ Below w'.heap.size w' w'') := hN
  have HF : Hid (∀ w', Below w.heap.size w w' → Calls Tryd.prog 68 #[bptr p, .int .i64 70] w' fun e w'' => Told w' p (fev (Km.sentS s g false) ⟨4, (x, n, r, d.data.toList), 70⟩) (lcs (fkl (Km.sentS s g false)).1 (fkl (Km.sentS s g false)).2 ⟨#[]⟩ false 0 false ⟨#[]⟩ ⟨#[]⟩ (Km.sentS s g false) g) e w'') := fun w' hb => lfail_any w' p 1 l row x n r d wire s g 70 (by decide) hc (h.on hb)
  have c0 : w.cell? ⟨p, 0, none⟩ = some (.int .i64 1) := h.c 0 _ rfl
  have f0 : w.frozen? ⟨p, 0, none⟩ = false := h.f 0
  have c1 : w.cell? ⟨p, 1, none⟩ = some (.int .i64 l) := h.c 1 _ rfl
  have f1 : w.frozen? ⟨p, 1, none⟩ = false := h.f 1
  have a0 : ∀ o, (w.alloc o).cell? ⟨p, 0, none⟩ = some (.int .i64 1) := fun o => (h.alloc o).c 0 _ rfl
  have b0 : ∀ o, (w.alloc o).frozen? ⟨p, 0, none⟩ = false := fun o => (h.alloc o).f 0
  have a1 : ∀ o, (w.alloc o).cell? ⟨p, 1, none⟩ = some (.int .i64 l) := fun o => (h.alloc o).c 1 _ rfl
  have b1 : ∀ o, (w.alloc o).frozen? ⟨p, 1, none⟩ = false := fun o => (h.alloc o).f 1
  generalize fev (Km.sentS s g false) ⟨4, (x, n, r, d.data.toList), 70⟩ = EV at *
  generalize (fkl (Km.sentS s g false)).1 = K1 at *
  generalize (fkl (Km.sentS s g false)).2 = K2 at *
  generalize Km.sentS s g false = S' at *
  clear h hc hN
  cases c
  all_goals
    go_enter Tryd.func50, Tryd.ntmps50
    go_wp2_with fail
    refine Lw.wp_region_quiet_below (by kernel_rfl) (by kernel_rfl) ?_
    repeat (first
      | go_big_quiet_skip
      | (go_big_quiet_want; go_big_quiet_op; go_big_quiet_on)
      | (go_big_quiet_want; go_big_quiet_op; apply Exists.intro; refine ⟨fun _ hb' => ?_, ?_⟩; (first
        | exact Lw.val_rfl _
        | (go_at_call 46; exact Lw.calls_below hb' (HN.out _ hb'))); go_big_quiet_on))
    refine wpQuiet_nil ?_
    intro w2 hb2
    have HB2 : Hid (Below w.heap.size w w2) := hb2
    clear hb2
    go_wp2_with fail
    refine (HF.out _ HB2.out).mono ?_
    rintro e w3 hR
    have HR : Hid (Told w p EV (lcs K1 K2 ⟨#[]⟩ false 0 false ⟨#[]⟩ ⟨#[]⟩ S' g) e w3) := Told.from (Kp.of HB2.out) hR
    obtain ⟨sl, cap, rfl, hE, hk, hm⟩ := hR
    clear hE hk hm
    go_wp2
    go_ret
    exact HR.out
/-- The bit that comes is what the sender drives; at the second one behind the sum a 0. -/
def Fits (w : World) (p : Nat) (l : Int) (c : Bool) : Prop := l = 9 ∧ c = false ∨ (l == 9) = false ∧ ∀ w', Below w.heap.size w w' → Calls Tryd.prog 46 #[bptr p] w' fun e w'' => e = .returned (dV c) ∧ Below w'.heap.size w' w''
set_option maxRecDepth 100000 in
set_option maxHeartbeats 4000000 in
theorem lsend_on (w : World) (p : Nat) (l : Int) (row : ByteArray) (x : Bool) (n : Nat) (r : Bool) (d wire : ByteArray) (s g : Int) (c : Bool) (h1 : 1 < l) (h2 : l ≤ 1000) (hr : row.size ≤ 1000)
    (hF : Fits w p l c) (h : LRow w p (lcs 1 l row x n r d wire s g)) :
    Calls Tryd.prog 50 #[bptr p, .string ⟨#[if c then 49 else 48]⟩] w fun e w' => Told w p [] (lcs 1 (l - 1) (row ++ ⟨#[if c then 49 else 48]⟩) x n r d wire s g) e w' := by
  have hlt := h.lt
  have HM : Hid (LRow w p (lcs 1 l row x n r d wire s g)) := h
  have HL : Hid (∀ w, Calls Tryd.prog 54 #[phV 1 l] w fun e w' => e = .returned (phV 1 (l - 1)) ∧ Below w.heap.size w w') := fun w => less_more 1 l h1 h2 w
  rcases hF with ⟨rfl, rfl⟩ | ⟨hl, hN⟩
  · show Calls Tryd.prog 50 #[bptr p, .string ⟨#[48]⟩] w fun e w' => Told w p [] (lcs 1 8 (row ++ ⟨#[48]⟩) x n r d wire s g) e w'
    have c0 : w.cell? ⟨p, 0, none⟩ = some (.int .i64 1) := h.c 0 _ rfl
    have f0 : w.frozen? ⟨p, 0, none⟩ = false := h.f 0
    have c1 : w.cell? ⟨p, 1, none⟩ = some (.int .i64 9) := h.c 1 _ rfl
    have f1 : w.frozen? ⟨p, 1, none⟩ = false := h.f 1
    have c2 : w.cell? ⟨p, 2, none⟩ = some (.string row) := h.c 2 _ rfl
    have f2 : w.frozen? ⟨p, 2, none⟩ = false := h.f 2
    have a0 : ∀ o, (w.alloc o).cell? ⟨p, 0, none⟩ = some (.int .i64 1) := fun o => (h.alloc o).c 0 _ rfl
    have b0 : ∀ o, (w.alloc o).frozen? ⟨p, 0, none⟩ = false := fun o => (h.alloc o).f 0
    have a1 : ∀ o, (w.alloc o).cell? ⟨p, 1, none⟩ = some (.int .i64 9) := fun o => (h.alloc o).c 1 _ rfl
    have b1 : ∀ o, (w.alloc o).frozen? ⟨p, 1, none⟩ = false := fun o => (h.alloc o).f 1
    have a2 : ∀ o, (w.alloc o).cell? ⟨p, 2, none⟩ = some (.string row) := fun o => (h.alloc o).c 2 _ rfl
    have b2 : ∀ o, (w.alloc o).frozen? ⟨p, 2, none⟩ = false := fun o => (h.alloc o).f 2
    clear h
    go_enter Tryd.func50, Tryd.ntmps50
    go_wp2_with fail
    have HMW : Hid (LRow w p (lcs 1 9 row x n r d wire s g)) := HM
    have HKW : Hid (Kp p w w) := Kept.refl _ w
    refine (HL.out _).mono ?_
    rintro e w3 ⟨rfl, hb⟩
    have hm : LRow w3 p (lcs 1 9 (row ++ ⟨#[48]⟩) x n r d wire s g) := LRow.on (HMW.out.set 2 _) hb
    have HM3 : Hid (LRow w3 p (lcs 1 9 (row ++ ⟨#[48]⟩) x n r d wire s g)) := hm
    have HK3 : Hid (Kp p w w3) := Kp.join (Kp.set1 HKW.out) hb
    have cz0 : w3.cell? ⟨p, 0, none⟩ = some (.int .i64 1) := hm.c 0 _ rfl
    have fz0 : w3.frozen? ⟨p, 0, none⟩ = false := hm.f 0
    have cz1 : w3.cell? ⟨p, 1, none⟩ = some (.int .i64 9) := hm.c 1 _ rfl
    have fz1 : w3.frozen? ⟨p, 1, none⟩ = false := hm.f 1
    clear hm hb HL
    go_wp2
    go_ret
    exact ⟨_, _, rfl, EvAt.empty _ _, Kp.set1 (Kp.set1 HK3.out), (HM3.out.set 0 _).set 1 _⟩
  · have HN : Hid (∀ w', Below w.heap.size w w' → Calls Tryd.prog 46 #[bptr p] w' fun e w'' => e = .returned (dV c) ∧ Below w'.heap.size w' w'') := hN
    have c0 : w.cell? ⟨p, 0, none⟩ = some (.int .i64 1) := h.c 0 _ rfl
    have f0 : w.frozen? ⟨p, 0, none⟩ = false := h.f 0
    have c1 : w.cell? ⟨p, 1, none⟩ = some (.int .i64 l) := h.c 1 _ rfl
    have f1 : w.frozen? ⟨p, 1, none⟩ = false := h.f 1
    have c2 : w.cell? ⟨p, 2, none⟩ = some (.string row) := h.c 2 _ rfl
    have f2 : w.frozen? ⟨p, 2, none⟩ = false := h.f 2
    have a0 : ∀ o, (w.alloc o).cell? ⟨p, 0, none⟩ = some (.int .i64 1) := fun o => (h.alloc o).c 0 _ rfl
    have b0 : ∀ o, (w.alloc o).frozen? ⟨p, 0, none⟩ = false := fun o => (h.alloc o).f 0
    have a1 : ∀ o, (w.alloc o).cell? ⟨p, 1, none⟩ = some (.int .i64 l) := fun o => (h.alloc o).c 1 _ rfl
    have b1 : ∀ o, (w.alloc o).frozen? ⟨p, 1, none⟩ = false := fun o => (h.alloc o).f 1
    have a2 : ∀ o, (w.alloc o).cell? ⟨p, 2, none⟩ = some (.string row) := fun o => (h.alloc o).c 2 _ rfl
    have b2 : ∀ o, (w.alloc o).frozen? ⟨p, 2, none⟩ = false := fun o => (h.alloc o).f 2
    clear h hN
    cases c
    · show Calls Tryd.prog 50 #[bptr p, .string ⟨#[48]⟩] w fun e w' => Told w p [] (lcs 1 (l - 1) (row ++ ⟨#[48]⟩) x n r d wire s g) e w'
      go_enter Tryd.func50, Tryd.ntmps50
      go_wp2_with fail
      refine Lw.wp_region_quiet_below (by kernel_rfl) (by kernel_rfl) ?_
      repeat (first
        | go_big_quiet_skip
        | (go_big_quiet_want; go_big_quiet_op; go_big_quiet_on)
        | (go_big_quiet_want; go_big_quiet_op; apply Exists.intro; refine ⟨fun _ hb' => ?_, ?_⟩; (first
          | exact Lw.val_rfl _
          | (go_at_call 46; exact Lw.calls_below hb' (HN.out _ hb'))); go_big_quiet_on))
      refine wpQuiet_nil ?_
      intro w2 hb2
      have hm := HM.out.on hb2
      have HMW : Hid (LRow w2 p (lcs 1 l row x n r d wire s g)) := hm
      have HKW : Hid (Kp p w w2) := Kp.of hb2
      clear c0 c1 c2 f0 f1 f2 a0 a1 a2 b0 b1 b2
      have c0 : w2.cell? ⟨p, 0, none⟩ = some (.int .i64 1) := hm.c 0 _ rfl
      have f0 : w2.frozen? ⟨p, 0, none⟩ = false := hm.f 0
      have c1 : w2.cell? ⟨p, 1, none⟩ = some (.int .i64 l) := hm.c 1 _ rfl
      have f1 : w2.frozen? ⟨p, 1, none⟩ = false := hm.f 1
      have c2 : w2.cell? ⟨p, 2, none⟩ = some (.string row) := hm.c 2 _ rfl
      have f2 : w2.frozen? ⟨p, 2, none⟩ = false := hm.f 2
      clear hm hb2
      go_wp2_with fail
      refine (HL.out _).mono ?_
      rintro e w3 ⟨rfl, hb⟩
      have hm : LRow w3 p (lcs 1 l (row ++ ⟨#[48]⟩) x n r d wire s g) := LRow.on (HMW.out.set 2 _) hb
      have HM3 : Hid (LRow w3 p (lcs 1 l (row ++ ⟨#[48]⟩) x n r d wire s g)) := hm
      have HK3 : Hid (Kp p w w3) := Kp.join (Kp.set1 HKW.out) hb
      have cz0 : w3.cell? ⟨p, 0, none⟩ = some (.int .i64 1) := hm.c 0 _ rfl
      have fz0 : w3.frozen? ⟨p, 0, none⟩ = false := hm.f 0
      have cz1 : w3.cell? ⟨p, 1, none⟩ = some (.int .i64 l) := hm.c 1 _ rfl
      have fz1 : w3.frozen? ⟨p, 1, none⟩ = false := hm.f 1
      clear hm hb HL
      go_wp2
      go_ret
      exact ⟨_, _, rfl, EvAt.empty _ _, Kp.set1 (Kp.set1 HK3.out), (HM3.out.set 0 _).set 1 _⟩
    · show Calls Tryd.prog 50 #[bptr p, .string ⟨#[49]⟩] w fun e w' => Told w p [] (lcs 1 (l - 1) (row ++ ⟨#[49]⟩) x n r d wire s g) e w'
      go_enter Tryd.func50, Tryd.ntmps50
      go_wp2_with fail
      refine Lw.wp_region_quiet_below (by kernel_rfl) (by kernel_rfl) ?_
      repeat (first
        | go_big_quiet_skip
        | (go_big_quiet_want; go_big_quiet_op; go_big_quiet_on)
        | (go_big_quiet_want; go_big_quiet_op; apply Exists.intro; refine ⟨fun _ hb' => ?_, ?_⟩; (first
          | exact Lw.val_rfl _
          | (go_at_call 46; exact Lw.calls_below hb' (HN.out _ hb'))); go_big_quiet_on))
      refine wpQuiet_nil ?_
      intro w2 hb2
      have hm := HM.out.on hb2
      have HMW : Hid (LRow w2 p (lcs 1 l row x n r d wire s g)) := hm
      have HKW : Hid (Kp p w w2) := Kp.of hb2
      clear c0 c1 c2 f0 f1 f2 a0 a1 a2 b0 b1 b2
      have c0 : w2.cell? ⟨p, 0, none⟩ = some (.int .i64 1) := hm.c 0 _ rfl
      have f0 : w2.frozen? ⟨p, 0, none⟩ = false := hm.f 0
      have c1 : w2.cell? ⟨p, 1, none⟩ = some (.int .i64 l) := hm.c 1 _ rfl
      have f1 : w2.frozen? ⟨p, 1, none⟩ = false := hm.f 1
      have c2 : w2.cell? ⟨p, 2, none⟩ = some (.string row) := hm.c 2 _ rfl
      have f2 : w2.frozen? ⟨p, 2, none⟩ = false := hm.f 2
      clear hm hb2
      go_wp2_with fail
      refine (HL.out _).mono ?_
      rintro e w3 ⟨rfl, hb⟩
      have hm : LRow w3 p (lcs 1 l (row ++ ⟨#[49]⟩) x n r d wire s g) := LRow.on (HMW.out.set 2 _) hb
      have HM3 : Hid (LRow w3 p (lcs 1 l (row ++ ⟨#[49]⟩) x n r d wire s g)) := hm
      have HK3 : Hid (Kp p w w3) := Kp.join (Kp.set1 HKW.out) hb
      have cz0 : w3.cell? ⟨p, 0, none⟩ = some (.int .i64 1) := hm.c 0 _ rfl
      have fz0 : w3.frozen? ⟨p, 0, none⟩ = false := hm.f 0
      have cz1 : w3.cell? ⟨p, 1, none⟩ = some (.int .i64 l) := hm.c 1 _ rfl
      have fz1 : w3.frozen? ⟨p, 1, none⟩ = false := hm.f 1
      clear hm hb HL
      go_wp2
      go_ret
      exact ⟨_, _, rfl, EvAt.empty _ _, Kp.set1 (Kp.set1 HK3.out), (HM3.out.set 0 _).set 1 _⟩
set_option maxRecDepth 100000 in
set_option maxHeartbeats 4000000 in
theorem lsend_last (w : World) (p : Nat) (row : ByteArray) (x : Bool) (n : Nat) (r : Bool) (d wire : ByteArray) (s g : Int) (c : Bool) (hr : row.size ≤ 1000) (hc : Km.isC s g = true)
    (hN : ∀ w', Below w.heap.size w w' → Calls Tryd.prog 46 #[bptr p] w' fun e w'' => e = .returned (dV c) ∧ Below w'.heap.size w' w'') (h : LRow w p (lcs 1 1 row x n r d wire s g)) :
    Calls Tryd.prog 50 #[bptr p, .string ⟨#[if c then 49 else 48]⟩] w fun e w' => Told w p [⟨1, (x, n, r, d.data.toList), 0⟩] (lcs 5 3 ⟨#[]⟩ false 0 false ⟨#[]⟩ ⟨#[]⟩ (Km.sentS s g true) g) e w' := by
  have hlt := h.lt
  have HM : Hid (LRow w p (lcs 1 1 row x n r d wire s g)) := h
  have HL : Hid (∀ w, Calls Tryd.prog 54 #[phV 1 1] w fun e w' => e = .returned (phV 5 3) ∧ Below w.heap.size w w') := fun w => less_end 1 (Or.inl rfl) w
  have HN : Hid (∀ w', Below w.heap.size w w' → Calls Tryd.prog 46 #[bptr p] w' fun e w'' => e = .returned (dV c) ∧ Below w'.heap.size w' w'') := hN
  have HS : Hid (∀ w, Calls Tryd.prog 69 #[.agg #[.int .i64 s, .int .i64 g], .bool true] w fun e w' => e = .returned (.agg #[.int .i64 (Km.sentS s g true), .int .i64 g]) ∧ Below w.heap.size w w') := fun w => kSent_any s g true w (isC_wf hc).1 (isC_wf hc).2
  have HX : Hid (d = ⟨d.data.toList.toArray⟩) := (by show _ = _; simp)
  generalize Km.sentS s g true = S' at *
  have c0 : w.cell? ⟨p, 0, none⟩ = some (.int .i64 1) := h.c 0 _ rfl
  have f0 : w.frozen? ⟨p, 0, none⟩ = false := h.f 0
  have c1 : w.cell? ⟨p, 1, none⟩ = some (.int .i64 1) := h.c 1 _ rfl
  have f1 : w.frozen? ⟨p, 1, none⟩ = false := h.f 1
  have c2 : w.cell? ⟨p, 2, none⟩ = some (.string row) := h.c 2 _ rfl
  have f2 : w.frozen? ⟨p, 2, none⟩ = false := h.f 2
  have a0 : ∀ o, (w.alloc o).cell? ⟨p, 0, none⟩ = some (.int .i64 1) := fun o => (h.alloc o).c 0 _ rfl
  have b0 : ∀ o, (w.alloc o).frozen? ⟨p, 0, none⟩ = false := fun o => (h.alloc o).f 0
  have a1 : ∀ o, (w.alloc o).cell? ⟨p, 1, none⟩ = some (.int .i64 1) := fun o => (h.alloc o).c 1 _ rfl
  have b1 : ∀ o, (w.alloc o).frozen? ⟨p, 1, none⟩ = false := fun o => (h.alloc o).f 1
  have a2 : ∀ o, (w.alloc o).cell? ⟨p, 2, none⟩ = some (.string row) := fun o => (h.alloc o).c 2 _ rfl
  have b2 : ∀ o, (w.alloc o).frozen? ⟨p, 2, none⟩ = false := fun o => (h.alloc o).f 2
  clear h hN hc
  cases c
  · show Calls Tryd.prog 50 #[bptr p, .string ⟨#[48]⟩] w fun e w' => Told w p [⟨1, (x, n, r, d.data.toList), 0⟩] (lcs 5 3 ⟨#[]⟩ false 0 false ⟨#[]⟩ ⟨#[]⟩ S' g) e w'
    go_enter Tryd.func50, Tryd.ntmps50
    go_wp2_with fail
    refine Lw.wp_region_quiet_below (by kernel_rfl) (by kernel_rfl) ?_
    repeat (first
      | go_big_quiet_skip
      | (go_big_quiet_want; go_big_quiet_op; go_big_quiet_on)
      | (go_big_quiet_want; go_big_quiet_op; apply Exists.intro; refine ⟨fun _ hb' => ?_, ?_⟩; (first
        | exact Lw.val_rfl _
        | (go_at_call 46; exact Lw.calls_below hb' (HN.out _ hb'))); go_big_quiet_on))
    refine wpQuiet_nil ?_
    intro w2 hb2
    have hm := HM.out.on hb2
    have HM2 : Hid (LRow w2 p (lcs 1 1 row x n r d wire s g)) := hm
    have HK2 : Hid (Kp p w w2) := Kp.of hb2
    clear c0 c1 c2 f0 f1 f2 a0 a1 a2 b0 b1 b2
    have c0 : w2.cell? ⟨p, 0, none⟩ = some (.int .i64 1) := hm.c 0 _ rfl
    have f0 : w2.frozen? ⟨p, 0, none⟩ = false := hm.f 0
    have c1 : w2.cell? ⟨p, 1, none⟩ = some (.int .i64 1) := hm.c 1 _ rfl
    have f1 : w2.frozen? ⟨p, 1, none⟩ = false := hm.f 1
    have c2 : w2.cell? ⟨p, 2, none⟩ = some (.string row) := hm.c 2 _ rfl
    have f2 : w2.frozen? ⟨p, 2, none⟩ = false := hm.f 2
    clear hm hb2
    go_wp2_with fail
    refine (HL.out _).mono ?_
    rintro e w3 ⟨rfl, hb⟩
    have hm : LRow w3 p (lcs 1 1 (row ++ ⟨#[48]⟩) x n r d wire s g) := LRow.on (HM2.out.set 2 _) hb
    have HM3 : Hid (LRow w3 p (lcs 1 1 (row ++ ⟨#[48]⟩) x n r d wire s g)) := hm
    have HK3 : Hid (Kp p w w3) := Kp.join (Kp.set1 HK2.out) hb
    have hs3 : p < w3.heap.size := hm.lt
    have hps : ¬ p = w3.heap.size := Nat.ne_of_lt hs3
    have hsp : ¬ w3.heap.size = p := fun e => hps e.symm
    have HM4 : Hid (LRow ((w3.setCell ⟨p, 0, none⟩ (.int .i64 5)).setCell ⟨p, 1, none⟩ (.int .i64 3)) p (lcs 5 3 (row ++ ⟨#[48]⟩) x n r d wire s g)) := (hm.set 0 _).set 1 _
    have cz0 : w3.cell? ⟨p, 0, none⟩ = some (.int .i64 1) := hm.c 0 _ rfl
    have fz0 : w3.frozen? ⟨p, 0, none⟩ = false := hm.f 0
    have cz1 : w3.cell? ⟨p, 1, none⟩ = some (.int .i64 1) := hm.c 1 _ rfl
    have fz1 : w3.frozen? ⟨p, 1, none⟩ = false := hm.f 1
    have cz3 : w3.cell? ⟨p, 3, none⟩ = some (.bool x) := hm.c 3 _ rfl
    have fz3 : w3.frozen? ⟨p, 3, none⟩ = false := hm.f 3
    have cz4 : w3.cell? ⟨p, 4, none⟩ = some (.int .u32 n) := hm.c 4 _ rfl
    have fz4 : w3.frozen? ⟨p, 4, none⟩ = false := hm.f 4
    have cz5 : w3.cell? ⟨p, 5, none⟩ = some (.bool r) := hm.c 5 _ rfl
    have fz5 : w3.frozen? ⟨p, 5, none⟩ = false := hm.f 5
    have cz6 : w3.cell? ⟨p, 6, none⟩ = some (.string d) := hm.c 6 _ rfl
    have fz6 : w3.frozen? ⟨p, 6, none⟩ = false := hm.f 6
    have hm4 := HM4.out
    have az : ∀ o, (((w3.setCell ⟨p, 0, none⟩ (.int .i64 5)).setCell ⟨p, 1, none⟩ (.int .i64 3)).alloc o).cell? ⟨p, 3, none⟩ = some (.bool x) := fun o => (hm4.alloc o).c 3 _ rfl
    clear hm hm4 hb HL HM2 HK2 c0 c1 c2 f0 f1 f2
    go_wp2_with fail
    refine (ldrop_any _ p 5 3 (row ++ ⟨#[48]⟩) x n r d wire s g (HM4.out.alloc _)).mono ?_
    rintro e w4 ⟨rfl, h1, h2⟩
    have HM5 : Hid (LRow w4 p (lcs 5 3 (row ++ ⟨#[48]⟩) false 0 false ⟨#[]⟩ ⟨#[]⟩ s g)) := h1
    have HK5 : Hid (Kp p w w4) := (Kp.alloc (Kp.set1 (Kp.set1 HK3.out)) _).then h2
    have LF : Hid (Lies w4 w3.heap.size x n r d) := (h2.block w3.heap.size (by simp) hsp).trans (alloc_at (by simp))
    have cm2 : w4.cell? ⟨p, 2, none⟩ = some (.string (row ++ ⟨#[48]⟩)) := h1.c 2 _ rfl
    have fm2 : w4.frozen? ⟨p, 2, none⟩ = false := h1.f 2
    have cm8 : w4.cell? ⟨p, 8, none⟩ = some (.int .i64 s) := h1.c 8 _ rfl
    have fm8 : w4.frozen? ⟨p, 8, none⟩ = false := h1.f 8
    have cm9 : w4.cell? ⟨p, 9, none⟩ = some (.int .i64 g) := h1.c 9 _ rfl
    have fm9 : w4.frozen? ⟨p, 9, none⟩ = false := h1.f 9
    clear h1 h2 HM4 HM3 HK3 cz0 cz1 cz3 cz4 cz5 cz6 fz0 fz1 fz3 fz4 fz5 fz6 az
    go_wp2_with fail
    refine (HS.out _).mono ?_
    rintro e w5 ⟨rfl, hb⟩
    have hm : LRow w5 p (lcs 5 3 ⟨#[]⟩ false 0 false ⟨#[]⟩ ⟨#[]⟩ s g) := LRow.on (HM5.out.set 2 _) hb
    have HM6 : Hid (LRow w5 p (lcs 5 3 ⟨#[]⟩ false 0 false ⟨#[]⟩ ⟨#[]⟩ s g)) := hm
    have HK6 : Hid (Kp p w w5) := Kp.join (Kp.set1 HK5.out) hb
    have LF2 : Hid (Lies w5 w3.heap.size x n r d) := Lies.on ((heap_setCell_other _ _ _ _ (by simpa using hsp)).trans LF.out) hb
    have cq8 : w5.cell? ⟨p, 8, none⟩ = some (.int .i64 s) := hm.c 8 _ rfl
    have fq8 : w5.frozen? ⟨p, 8, none⟩ = false := hm.f 8
    have cq9 : w5.cell? ⟨p, 9, none⟩ = some (.int .i64 g) := hm.c 9 _ rfl
    have fq9 : w5.frozen? ⟨p, 9, none⟩ = false := hm.f 9
    have L0 := LF2.out.c0
    have L1 := LF2.out.c1
    have L2 := LF2.out.c2
    have L3 := LF2.out.c3
    clear hm hb HM5 HK5 LF cm8 cm9 fm8 fm9 cm2 fm2 HS
    go_wp2
    go_ret
    refine ⟨_, _, rfl, EvAt.one (v := ⟨1, (x, n, r, d.data.toList), 0⟩) ?_ HK6.out.size, Kp.alloc (Kp.set1 (Kp.set1 HK6.out)) _, ((HM6.out.set 8 _).set 9 _).alloc _⟩
    exact alloc_at (by simp)
  · show Calls Tryd.prog 50 #[bptr p, .string ⟨#[49]⟩] w fun e w' => Told w p [⟨1, (x, n, r, d.data.toList), 0⟩] (lcs 5 3 ⟨#[]⟩ false 0 false ⟨#[]⟩ ⟨#[]⟩ S' g) e w'
    go_enter Tryd.func50, Tryd.ntmps50
    go_wp2_with fail
    refine Lw.wp_region_quiet_below (by kernel_rfl) (by kernel_rfl) ?_
    repeat (first
      | go_big_quiet_skip
      | (go_big_quiet_want; go_big_quiet_op; go_big_quiet_on)
      | (go_big_quiet_want; go_big_quiet_op; apply Exists.intro; refine ⟨fun _ hb' => ?_, ?_⟩; (first
        | exact Lw.val_rfl _
        | (go_at_call 46; exact Lw.calls_below hb' (HN.out _ hb'))); go_big_quiet_on))
    refine wpQuiet_nil ?_
    intro w2 hb2
    have hm := HM.out.on hb2
    have HM2 : Hid (LRow w2 p (lcs 1 1 row x n r d wire s g)) := hm
    have HK2 : Hid (Kp p w w2) := Kp.of hb2
    clear c0 c1 c2 f0 f1 f2 a0 a1 a2 b0 b1 b2
    have c0 : w2.cell? ⟨p, 0, none⟩ = some (.int .i64 1) := hm.c 0 _ rfl
    have f0 : w2.frozen? ⟨p, 0, none⟩ = false := hm.f 0
    have c1 : w2.cell? ⟨p, 1, none⟩ = some (.int .i64 1) := hm.c 1 _ rfl
    have f1 : w2.frozen? ⟨p, 1, none⟩ = false := hm.f 1
    have c2 : w2.cell? ⟨p, 2, none⟩ = some (.string row) := hm.c 2 _ rfl
    have f2 : w2.frozen? ⟨p, 2, none⟩ = false := hm.f 2
    clear hm hb2
    go_wp2_with fail
    refine (HL.out _).mono ?_
    rintro e w3 ⟨rfl, hb⟩
    have hm : LRow w3 p (lcs 1 1 (row ++ ⟨#[49]⟩) x n r d wire s g) := LRow.on (HM2.out.set 2 _) hb
    have HM3 : Hid (LRow w3 p (lcs 1 1 (row ++ ⟨#[49]⟩) x n r d wire s g)) := hm
    have HK3 : Hid (Kp p w w3) := Kp.join (Kp.set1 HK2.out) hb
    have hs3 : p < w3.heap.size := hm.lt
    have hps : ¬ p = w3.heap.size := Nat.ne_of_lt hs3
    have hsp : ¬ w3.heap.size = p := fun e => hps e.symm
    have HM4 : Hid (LRow ((w3.setCell ⟨p, 0, none⟩ (.int .i64 5)).setCell ⟨p, 1, none⟩ (.int .i64 3)) p (lcs 5 3 (row ++ ⟨#[49]⟩) x n r d wire s g)) := (hm.set 0 _).set 1 _
    have cz0 : w3.cell? ⟨p, 0, none⟩ = some (.int .i64 1) := hm.c 0 _ rfl
    have fz0 : w3.frozen? ⟨p, 0, none⟩ = false := hm.f 0
    have cz1 : w3.cell? ⟨p, 1, none⟩ = some (.int .i64 1) := hm.c 1 _ rfl
    have fz1 : w3.frozen? ⟨p, 1, none⟩ = false := hm.f 1
    have cz3 : w3.cell? ⟨p, 3, none⟩ = some (.bool x) := hm.c 3 _ rfl
    have fz3 : w3.frozen? ⟨p, 3, none⟩ = false := hm.f 3
    have cz4 : w3.cell? ⟨p, 4, none⟩ = some (.int .u32 n) := hm.c 4 _ rfl
    have fz4 : w3.frozen? ⟨p, 4, none⟩ = false := hm.f 4
    have cz5 : w3.cell? ⟨p, 5, none⟩ = some (.bool r) := hm.c 5 _ rfl
    have fz5 : w3.frozen? ⟨p, 5, none⟩ = false := hm.f 5
    have cz6 : w3.cell? ⟨p, 6, none⟩ = some (.string d) := hm.c 6 _ rfl
    have fz6 : w3.frozen? ⟨p, 6, none⟩ = false := hm.f 6
    have hm4 := HM4.out
    have az : ∀ o, (((w3.setCell ⟨p, 0, none⟩ (.int .i64 5)).setCell ⟨p, 1, none⟩ (.int .i64 3)).alloc o).cell? ⟨p, 3, none⟩ = some (.bool x) := fun o => (hm4.alloc o).c 3 _ rfl
    clear hm hm4 hb HL HM2 HK2 c0 c1 c2 f0 f1 f2
    go_wp2_with fail
    refine (ldrop_any _ p 5 3 (row ++ ⟨#[49]⟩) x n r d wire s g (HM4.out.alloc _)).mono ?_
    rintro e w4 ⟨rfl, h1, h2⟩
    have HM5 : Hid (LRow w4 p (lcs 5 3 (row ++ ⟨#[49]⟩) false 0 false ⟨#[]⟩ ⟨#[]⟩ s g)) := h1
    have HK5 : Hid (Kp p w w4) := (Kp.alloc (Kp.set1 (Kp.set1 HK3.out)) _).then h2
    have LF : Hid (Lies w4 w3.heap.size x n r d) := (h2.block w3.heap.size (by simp) hsp).trans (alloc_at (by simp))
    have cm2 : w4.cell? ⟨p, 2, none⟩ = some (.string (row ++ ⟨#[49]⟩)) := h1.c 2 _ rfl
    have fm2 : w4.frozen? ⟨p, 2, none⟩ = false := h1.f 2
    have cm8 : w4.cell? ⟨p, 8, none⟩ = some (.int .i64 s) := h1.c 8 _ rfl
    have fm8 : w4.frozen? ⟨p, 8, none⟩ = false := h1.f 8
    have cm9 : w4.cell? ⟨p, 9, none⟩ = some (.int .i64 g) := h1.c 9 _ rfl
    have fm9 : w4.frozen? ⟨p, 9, none⟩ = false := h1.f 9
    clear h1 h2 HM4 HM3 HK3 cz0 cz1 cz3 cz4 cz5 cz6 fz0 fz1 fz3 fz4 fz5 fz6 az
    go_wp2_with fail
    refine (HS.out _).mono ?_
    rintro e w5 ⟨rfl, hb⟩
    have hm : LRow w5 p (lcs 5 3 ⟨#[]⟩ false 0 false ⟨#[]⟩ ⟨#[]⟩ s g) := LRow.on (HM5.out.set 2 _) hb
    have HM6 : Hid (LRow w5 p (lcs 5 3 ⟨#[]⟩ false 0 false ⟨#[]⟩ ⟨#[]⟩ s g)) := hm
    have HK6 : Hid (Kp p w w5) := Kp.join (Kp.set1 HK5.out) hb
    have LF2 : Hid (Lies w5 w3.heap.size x n r d) := Lies.on ((heap_setCell_other _ _ _ _ (by simpa using hsp)).trans LF.out) hb
    have cq8 : w5.cell? ⟨p, 8, none⟩ = some (.int .i64 s) := hm.c 8 _ rfl
    have fq8 : w5.frozen? ⟨p, 8, none⟩ = false := hm.f 8
    have cq9 : w5.cell? ⟨p, 9, none⟩ = some (.int .i64 g) := hm.c 9 _ rfl
    have fq9 : w5.frozen? ⟨p, 9, none⟩ = false := hm.f 9
    have L0 := LF2.out.c0
    have L1 := LF2.out.c1
    have L2 := LF2.out.c2
    have L3 := LF2.out.c3
    clear hm hb HM5 HK5 LF cm8 cm9 fm8 fm9 cm2 fm2 HS
    go_wp2
    go_ret
    refine ⟨_, _, rfl, EvAt.one (v := ⟨1, (x, n, r, d.data.toList), 0⟩) ?_ HK6.out.size, Kp.alloc (Kp.set1 (Kp.set1 HK6.out)) _, ((HM6.out.set 8 _).set 9 _).alloc _⟩
    exact alloc_at (by simp)
end Go.Proofs.YtoohmpkhljfpbaaDoor
