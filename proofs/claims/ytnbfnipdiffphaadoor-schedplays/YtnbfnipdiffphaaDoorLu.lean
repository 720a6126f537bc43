/- Package check, over the landed code: the rules, each asked of one place or of two. -/
import Derived.Test.YtnbfnipdiffphaaDoorLk
namespace Go.Proofs.YtnbfnipdiffphaaDoor
open Go.RowKit Go.WideShapes
set_option linter.unusedVariables false
theorem ck_hasB (w : World) (c a : Int) (b : Bool) (hc : (Lit.int .i64 c).wf = true) (hb : Mx.within a 0 (c - 1) = b) : Calls Tryd.prog 65 #[.int .i64 c, .int .i64 a] w fun e w' => e = .returned (.bool b) ∧ Below w.heap.size w w' := (ck_has w c a hc).mono fun e w' ⟨h1, h2⟩ => by rw [h1, hb, h2]; exact ⟨rfl, Below.refl _ _⟩
theorem ck_tellS (w : World) (b : Bool) (x r : Int) (hr : (if b then x else 0) = r) : Calls Tryd.prog 64 #[.bool b, .int .i64 x] w fun e w' => e = .returned (.int .i64 r) ∧ w' = w := (ck_tell w b x).mono fun e w' ⟨h1, h2⟩ => by rw [h1, hr, h2]; exact ⟨rfl, rfl⟩
theorem ck_tellB (w : World) (b : Bool) (x r : Int) (hr : (if b then x else 0) = r) : Calls Tryd.prog 64 #[.bool b, .int .i64 x] w fun e w' => e = .returned (.int .i64 r) ∧ Below w.heap.size w w' := (ck_tell w b x).mono fun e w' ⟨h1, h2⟩ => by rw [h1, hr, h2]; exact ⟨rfl, Below.refl _ _⟩

set_option maxRecDepth 100000 in
set_option maxHeartbeats 4000000 in
theorem ck_eMaster (W w : World) (p : Nat) (m : Mx.M) (a : Ma) (k : Nat) (hX : Bx W w p m a) (hi : Mx.is m = true) (hk : k < m.masters.length) : Calls Tryd.prog 63 #[.int .i64 (k : Int), Ob.ptr p] w fun e w' => e = .returned (.int .i64 (Lq.eMaster m k)) ∧ Below w.heap.size w w' := by
  obtain ⟨x, hx⟩ : ∃ x, m.masters[k]? = some x := ⟨_, List.getElem?_eq_getElem hk⟩
  have HX : Hid (Bx W w p m a) := hX
  have n := Pq.num_of hi
  have h0 : 0 ≤ x := (n.masters x (List.mem_of_getElem? hx)).1
  have hn := n.nodes
  have hl : (m.masters.length : Int) ≤ 1000 := by have := n.l1; omega
  have hki : (k : Int) < (m.masters.length : Int) := by omega
  have he : Lq.eMaster m k = if m.nodes ≤ x then 141 else 0 := by unfold Lq.eMaster; rw [hx]
  obtain ⟨g, o, hs, _, hc⟩ := HX.out.mem.master hx
  have HA : Hid (∀ w', Below w.heap.size w w' → w'.cell? ⟨p, 1, none⟩ = some (.int .i64 m.nodes) ∧ w'.cell? ⟨p, 8, none⟩ = some (.slice (some ⟨g, o, none⟩) m.masters.length a.c1) ∧ w'.cell? ⟨g, o + k, none⟩ = some (.int .i64 x)) := fun w' hb => by
    have h1 := (HX.out.on hb).row.mat.2.1
    have h8 := (HX.out.on hb).row.mat.2.2.2.2.2.2.2.2.1
    obtain ⟨g1, o1, e1, _, q⟩ := (HX.out.on hb).mem.master hx
    rw [hs] at e1 h8
    injection e1 with e1
    injection e1 with e1 e2
    subst e1 e2
    exact ⟨h1, h8, q⟩
  have HN : Hid ((Lit.int .i64 m.nodes).wf = true) := wfi (by omega)
  rw [he]
  clear hX hi n hn hk hx he
  generalize m.masters.length = L at *
  by_cases hc : m.nodes ≤ x
  · rw [if_pos hc]
    have HC : Hid (∀ w1, Calls Tryd.prog 65 #[.int .i64 m.nodes, .int .i64 x] w1 fun e w' => e = .returned (.bool false) ∧ Below w1.heap.size w1 w') := fun w1 => ck_hasB w1 _ _ _ HN.out (by unfold Mx.within; rw [decide_eq_false (show ¬ x ≤ m.nodes - 1 by omega), Bool.and_false])
    have HD : Hid (∀ w1, Calls Tryd.prog 64 #[.bool true, .int .i64 141] w1 fun e w' => e = .returned (.int .i64 141) ∧ Below w1.heap.size w1 w') := fun w1 => ck_tellB w1 _ _ _ rfl
    clear hc h0 hs
    go_enter Tryd.func63, Tryd.ntmps63
    go_wp2_with fail
    refine Lw.wp_region_quiet_below (by kernel_rfl) (by kernel_rfl) ?_
    repeat (first
      | go_big_quiet_skip
      | (go_big_quiet_want; go_big_quiet_op; go_big_quiet_on)
      | (go_big_quiet_want; go_big_quiet_op; apply Exists.intro; refine ⟨fun _ hb' => ?_, ?_⟩; (first
        | exact Lw.val_rfl _
        | (go_at_call 65; exact Lw.calls_below hb' (HC.out _))
        | (go_at_call 64; exact Lw.calls_below hb' (HD.out _))
        | (simp [go_sem, (HA.out _ hb').1]; rfl)
        | (simp [go_sem, (HA.out _ hb').2.1]; rfl)
        | (simp [go_sem, (HA.out _ hb').2.2]; rfl)); go_big_quiet_on))
    refine wpQuiet_nil ?_
    intro wz hbz
    have HBz : Hid (Below w.heap.size w wz) := hbz
    clear hbz
    go_wp2
    go_ret
    exact ⟨rfl, HBz.out⟩
  · rw [if_neg hc]
    have HC : Hid (∀ w1, Calls Tryd.prog 65 #[.int .i64 m.nodes, .int .i64 x] w1 fun e w' => e = .returned (.bool true) ∧ Below w1.heap.size w1 w') := fun w1 => ck_hasB w1 _ _ _ HN.out (by unfold Mx.within; rw [decide_eq_true h0, decide_eq_true (show x ≤ m.nodes - 1 by omega)]; rfl)
    have HD : Hid (∀ w1, Calls Tryd.prog 64 #[.bool false, .int .i64 141] w1 fun e w' => e = .returned (.int .i64 0) ∧ Below w1.heap.size w1 w') := fun w1 => ck_tellB w1 _ _ _ rfl
    clear hc h0 hs
    go_enter Tryd.func63, Tryd.ntmps63
    go_wp2_with fail
    refine Lw.wp_region_quiet_below (by kernel_rfl) (by kernel_rfl) ?_
    repeat (first
      | go_big_quiet_skip
      | (go_big_quiet_want; go_big_quiet_op; go_big_quiet_on)
      | (go_big_quiet_want; go_big_quiet_op; apply Exists.intro; refine ⟨fun _ hb' => ?_, ?_⟩; (first
        | exact Lw.val_rfl _
        | (go_at_call 65; exact Lw.calls_below hb' (HC.out _))
        | (go_at_call 64; exact Lw.calls_below hb' (HD.out _))
        | (simp [go_sem, (HA.out _ hb').1]; rfl)
        | (simp [go_sem, (HA.out _ hb').2.1]; rfl)
        | (simp [go_sem, (HA.out _ hb').2.2]; rfl)); go_big_quiet_on))
    refine wpQuiet_nil ?_
    intro wz hbz
    have HBz : Hid (Below w.heap.size w wz) := hbz
    clear hbz
    go_wp2
    go_ret
    exact ⟨rfl, HBz.out⟩

set_option maxRecDepth 100000 in
set_option maxHeartbeats 4000000 in
theorem ck_eOwner (W w : World) (p : Nat) (m : Mx.M) (a : Ma) (k : Nat) (hX : Bx W w p m a) (hi : Mx.is m = true) (hk : k < m.messages.length) : Calls Tryd.prog 67 #[.int .i64 (k : Int), Ob.ptr p] w fun e w' => e = .returned (.int .i64 (Lq.eOwner m k)) ∧ Below w.heap.size w w' := by
  obtain ⟨x, hx⟩ : ∃ x, m.messages[k]? = some x := ⟨_, List.getElem?_eq_getElem hk⟩
  have HX : Hid (Bx W w p m a) := hX
  have n := Pq.num_of hi
  have h0 : 0 ≤ x.owner := (n.messages x (List.mem_of_getElem? hx)).2.1
  have hn := n.nodes
  have hl : (m.messages.length : Int) ≤ 1000 := by have := n.l2; omega
  have hki : (k : Int) < (m.messages.length : Int) := by omega
  have he : Lq.eOwner m k = if m.nodes ≤ x.owner then 141 else 0 := by unfold Lq.eOwner; rw [hx]
  obtain ⟨g, o, hs, _, _⟩ := HX.out.mem.message hx
  have HA : Hid (∀ w', Below w.heap.size w w' → w'.cell? ⟨p, 1, none⟩ = some (.int .i64 m.nodes) ∧ w'.cell? ⟨p, 9, none⟩ = some (.slice (some ⟨g, o, none⟩) m.messages.length a.c2) ∧ w'.cell? ⟨g, o + k * 3 + 1, none⟩ = some (.int .i64 x.owner)) := fun w' hb => by
    have h1 := (HX.out.on hb).row.mat.2.1
    have h8 := (HX.out.on hb).row.mat.2.2.2.2.2.2.2.2.2.1
    obtain ⟨g1, o1, e1, _, _, q, _⟩ := (HX.out.on hb).mem.message hx
    rw [hs] at e1 h8
    injection e1 with e1
    injection e1 with e1 e2
    subst e1 e2
    exact ⟨h1, h8, q⟩
  have HN : Hid ((Lit.int .i64 m.nodes).wf = true) := wfi (by omega)
  rw [he]
  clear hX hi n hn hk hx he
  generalize m.messages.length = L at *
  by_cases hc : m.nodes ≤ x.owner
  · rw [if_pos hc]
    have HC : Hid (∀ w1, Calls Tryd.prog 65 #[.int .i64 m.nodes, .int .i64 x.owner] w1 fun e w' => e = .returned (.bool false) ∧ Below w1.heap.size w1 w') := fun w1 => ck_hasB w1 _ _ _ HN.out (by unfold Mx.within; rw [decide_eq_false (show ¬ x.owner ≤ m.nodes - 1 by omega), Bool.and_false])
    have HD : Hid (∀ w1, Calls Tryd.prog 64 #[.bool true, .int .i64 141] w1 fun e w' => e = .returned (.int .i64 141) ∧ Below w1.heap.size w1 w') := fun w1 => ck_tellB w1 _ _ _ rfl
    clear hc h0 hs
    go_enter Tryd.func67, Tryd.ntmps67
    go_wp2_with fail
    refine Lw.wp_region_quiet_below (by kernel_rfl) (by kernel_rfl) ?_
    repeat (first
      | go_big_quiet_skip
      | (go_big_quiet_want; go_big_quiet_op; go_big_quiet_on)
      | (go_big_quiet_want; go_big_quiet_op; apply Exists.intro; refine ⟨fun _ hb' => ?_, ?_⟩; (first
        | exact Lw.val_rfl _
        | (go_at_call 65; exact Lw.calls_below hb' (HC.out _))
        | (go_at_call 64; exact Lw.calls_below hb' (HD.out _))
        | (simp [go_sem, (HA.out _ hb').1]; rfl)
        | (simp [go_sem, (HA.out _ hb').2.1]; rfl)
        | (simp [go_sem, (HA.out _ hb').2.2]; rfl)); go_big_quiet_on))
    refine wpQuiet_nil ?_
    intro wz hbz
    have HBz : Hid (Below w.heap.size w wz) := hbz
    clear hbz
    go_wp2
    go_ret
    exact ⟨rfl, HBz.out⟩
  · rw [if_neg hc]
    have HC : Hid (∀ w1, Calls Tryd.prog 65 #[.int .i64 m.nodes, .int .i64 x.owner] w1 fun e w' => e = .returned (.bool true) ∧ Below w1.heap.size w1 w') := fun w1 => ck_hasB w1 _ _ _ HN.out (by unfold Mx.within; rw [decide_eq_true h0, decide_eq_true (show x.owner ≤ m.nodes - 1 by omega)]; rfl)
    have HD : Hid (∀ w1, Calls Tryd.prog 64 #[.bool false, .int .i64 141] w1 fun e w' => e = .returned (.int .i64 0) ∧ Below w1.heap.size w1 w') := fun w1 => ck_tellB w1 _ _ _ rfl
    clear hc h0 hs
    go_enter Tryd.func67, Tryd.ntmps67
    go_wp2_with fail
    refine Lw.wp_region_quiet_below (by kernel_rfl) (by kernel_rfl) ?_
    repeat (first
      | go_big_quiet_skip
      | (go_big_quiet_want; go_big_quiet_op; go_big_quiet_on)
      | (go_big_quiet_want; go_big_quiet_op; apply Exists.intro; refine ⟨fun _ hb' => ?_, ?_⟩; (first
        | exact Lw.val_rfl _
        | (go_at_call 65; exact Lw.calls_below hb' (HC.out _))
        | (go_at_call 64; exact Lw.calls_below hb' (HD.out _))
        | (simp [go_sem, (HA.out _ hb').1]; rfl)
        | (simp [go_sem, (HA.out _ hb').2.1]; rfl)
        | (simp [go_sem, (HA.out _ hb').2.2]; rfl)); go_big_quiet_on))
    refine wpQuiet_nil ?_
    intro wz hbz
    have HBz : Hid (Below w.heap.size w wz) := hbz
    clear hbz
    go_wp2
    go_ret
    exact ⟨rfl, HBz.out⟩

set_option maxRecDepth 100000 in
set_option maxHeartbeats 4000000 in
theorem ck_twM (W w : World) (p : Nat) (m : Mx.M) (a : Ma) (j k : Nat) (hX : Bx W w p m a) (hi : Mx.is m = true) (hj : j < k) (hk : k < m.masters.length) : Calls Tryd.prog 69 #[.int .i64 (j : Int), .int .i64 (k : Int), Ob.ptr p] w fun e w' => e = .returned (.int .i64 (if Lq.twM m j k then 142 else 0)) ∧ Below w.heap.size w w' := by
  obtain ⟨x, hx⟩ : ∃ x, m.masters[j]? = some x := ⟨_, List.getElem?_eq_getElem (Nat.lt_trans hj hk)⟩
  obtain ⟨y, hy⟩ : ∃ y, m.masters[k]? = some y := ⟨_, List.getElem?_eq_getElem hk⟩
  have HX : Hid (Bx W w p m a) := hX
  have n := Pq.num_of hi
  have hl : (m.masters.length : Int) ≤ 1000 := by have := n.l1; omega
  have hki : (k : Int) < (m.masters.length : Int) := by omega
  have hji : (j : Int) < (m.masters.length : Int) := by omega
  obtain ⟨b, hb0⟩ : ∃ b, Lq.twM m j k = b := ⟨_, rfl⟩
  have hb : (x == y) = b := by
    rw [← hb0]
    unfold Lq.twM
    rw [hx, hy]
    by_cases h : x = y <;> simp [h]
  obtain ⟨g, o, hs, _⟩ := HX.out.mem.master hx
  have HA : Hid (∀ w', Below w.heap.size w w' → w'.cell? ⟨p, 8, none⟩ = some (.slice (some ⟨g, o, none⟩) m.masters.length a.c1) ∧ w'.cell? ⟨g, o + j, none⟩ = some (.int .i64 x) ∧ w'.cell? ⟨g, o + k, none⟩ = some (.int .i64 y)) := fun w' hb => by
    have h8 := (HX.out.on hb).row.mat.2.2.2.2.2.2.2.2.1
    obtain ⟨g1, o1, e1, _, q⟩ := (HX.out.on hb).mem.master hx
    obtain ⟨g2, o2, e2, _, q2⟩ := (HX.out.on hb).mem.master hy
    rw [hs] at e1 e2 h8
    injection e1 with e1
    injection e1 with e1 e1o
    injection e2 with e2
    injection e2 with e2 e2o
    subst e1 e1o e2 e2o
    exact ⟨h8, q, q2⟩
  rw [hb0]
  clear hX hi n hk hj hx hy hs hb0
  generalize m.masters.length = L at *
  have HD : Hid (∀ w1, Calls Tryd.prog 64 #[.bool b, .int .i64 142] w1 fun e w' => e = .returned (.int .i64 (if b then 142 else 0)) ∧ Below w1.heap.size w1 w') := fun w1 => ck_tellB w1 _ _ _ rfl
  generalize (if b then (142 : Int) else 0) = R at *
  go_enter Tryd.func69, Tryd.ntmps69
  go_wp2_with fail
  refine Lw.wp_region_quiet_below (by kernel_rfl) (by kernel_rfl) ?_
  repeat (first
    | go_big_quiet_skip
    | (go_big_quiet_want; go_big_quiet_op; go_big_quiet_on)
    | (go_big_quiet_want; go_big_quiet_op; apply Exists.intro; refine ⟨fun _ hb' => ?_, ?_⟩; (first
      | exact Lw.val_rfl _
      | (go_at_call 64; exact Lw.calls_below hb' (HD.out _))
      | (simp [go_sem, (HA.out _ hb').1]; rfl)
      | (simp [go_sem, (HA.out _ hb').2.1]; rfl)
      | (simp [go_sem, (HA.out _ hb').2.2]; rfl)); go_big_quiet_on))
  refine wpQuiet_nil ?_
  intro wz hbz
  have HBz : Hid (Below w.heap.size w wz) := hbz
  clear hbz
  go_wp2
  go_ret
  exact ⟨rfl, HBz.out⟩

set_option maxRecDepth 100000 in
set_option maxHeartbeats 4000000 in
theorem ck_twI (W w : World) (p : Nat) (m : Mx.M) (a : Ma) (j k : Nat) (hX : Bx W w p m a) (hi : Mx.is m = true) (hj : j < k) (hk : k < m.messages.length) : Calls Tryd.prog 71 #[.int .i64 (j : Int), .int .i64 (k : Int), Ob.ptr p] w fun e w' => e = .returned (.int .i64 (if Lq.twI m j k then 142 else 0)) ∧ Below w.heap.size w w' := by
  obtain ⟨x, hx⟩ : ∃ x, m.messages[j]? = some x := ⟨_, List.getElem?_eq_getElem (Nat.lt_trans hj hk)⟩
  obtain ⟨y, hy⟩ : ∃ y, m.messages[k]? = some y := ⟨_, List.getElem?_eq_getElem hk⟩
  have HX : Hid (Bx W w p m a) := hX
  have n := Pq.num_of hi
  have hl : (m.messages.length : Int) ≤ 1000 := by have := n.l2; omega
  have hki : (k : Int) < (m.messages.length : Int) := by omega
  have hji : (j : Int) < (m.messages.length : Int) := by omega
  obtain ⟨b, hb0⟩ : ∃ b, Lq.twI m j k = b := ⟨_, rfl⟩
  have hb : ((x.id : Int) == (y.id : Int)) = b := by
    rw [← hb0]
    unfold Lq.twI
    rw [hx, hy]
    by_cases h : x.id = y.id <;> simp [h]; omega
  obtain ⟨g, o, hs, _⟩ := HX.out.mem.message hx
  have HA : Hid (∀ w', Below w.heap.size w w' → w'.cell? ⟨p, 9, none⟩ = some (.slice (some ⟨g, o, none⟩) m.messages.length a.c2) ∧ w'.cell? ⟨g, o + j * 3, none⟩ = some (.int .u32 (x.id : Int)) ∧ w'.cell? ⟨g, o + k * 3, none⟩ = some (.int .u32 (y.id : Int))) := fun w' hb => by
    have h8 := (HX.out.on hb).row.mat.2.2.2.2.2.2.2.2.2.1
    obtain ⟨g1, o1, e1, _, q, _⟩ := (HX.out.on hb).mem.message hx
    obtain ⟨g2, o2, e2, _, q2, _⟩ := (HX.out.on hb).mem.message hy
    rw [hs] at e1 e2 h8
    injection e1 with e1
    injection e1 with e1 e1o
    injection e2 with e2
    injection e2 with e2 e2o
    subst e1 e1o e2 e2o
    exact ⟨h8, q, q2⟩
  rw [hb0]
  clear hX hi n hk hj hx hy hs hb0
  generalize m.messages.length = L at *
  have HD : Hid (∀ w1, Calls Tryd.prog 64 #[.bool b, .int .i64 142] w1 fun e w' => e = .returned (.int .i64 (if b then 142 else 0)) ∧ Below w1.heap.size w1 w') := fun w1 => ck_tellB w1 _ _ _ rfl
  generalize (if b then (142 : Int) else 0) = R at *
  go_enter Tryd.func71, Tryd.ntmps71
  go_wp2_with fail
  refine Lw.wp_region_quiet_below (by kernel_rfl) (by kernel_rfl) ?_
  repeat (first
    | go_big_quiet_skip
    | (go_big_quiet_want; go_big_quiet_op; go_big_quiet_on)
    | (go_big_quiet_want; go_big_quiet_op; apply Exists.intro; refine ⟨fun _ hb' => ?_, ?_⟩; (first
      | exact Lw.val_rfl _
      | (go_at_call 64; exact Lw.calls_below hb' (HD.out _))
      | (simp [go_sem, (HA.out _ hb').1]; rfl)
      | (simp [go_sem, (HA.out _ hb').2.1]; rfl)
      | (simp [go_sem, (HA.out _ hb').2.2]; rfl)); go_big_quiet_on))
  refine wpQuiet_nil ?_
  intro wz hbz
  have HBz : Hid (Below w.heap.size w wz) := hbz
  clear hbz
  go_wp2
  go_ret
  exact ⟨rfl, HBz.out⟩

set_option maxRecDepth 100000 in
set_option maxHeartbeats 4000000 in
theorem ck_beat (W w : World) (p : Nat) (m : Mx.M) (a : Ma) (k : Nat) (hX : Bx W w p m a) (hi : Mx.is m = true) (hk : k < m.messages.length) : Calls Tryd.prog 70 #[.int .i64 (k : Int), Ob.ptr p] w fun e w' => e = .returned (.int .i64 (Lq.beatI m k)) ∧ Below w.heap.size w w' := by
  obtain ⟨x, hx⟩ : ∃ x, m.messages[k]? = some x := ⟨_, List.getElem?_eq_getElem hk⟩
  have n := Pq.num_of hi
  have hr := n.ref
  have hid := (n.messages x (List.mem_of_getElem? hx)).1
  have hl : (m.messages.length : Int) ≤ 1000 := by have := n.l2; omega
  have hki : (k : Int) < (m.messages.length : Int) := by omega
  have he : Lq.beatI m k = if m.ref ≤ x.id ∧ x.id ≤ m.ref + 7 then 142 else 0 := by unfold Lq.beatI; rw [hx]
  obtain ⟨g, o, hs, _, c0, _⟩ := hX.mem.message hx
  have c7 := hX.row.mat.2.2.2.2.2.2.2.1
  have c9 := hX.row.mat.2.2.2.2.2.2.2.2.2.1
  rw [hs] at c9
  rw [he]
  have HD : Hid (∀ w1 (b : Bool) (r : Int), (if b then (142 : Int) else 0) = r → Calls Tryd.prog 64 #[.bool b, .int .i64 142] w1 fun e w' => e = .returned (.int .i64 r) ∧ w' = w1) := fun w1 b r hr => (ck_tell w1 b 142).mono fun e w' ⟨h1, h2⟩ => by rw [h1, hr, h2]; exact ⟨rfl, rfl⟩
  clear hX hi n hx he hs
  have hr2 : (m.ref : Int) < 65536 := by omega
  have hid2 : (x.id : Int) < 65536 := by omega
  generalize m.ref = R at *
  generalize x.id = I at *
  generalize m.messages.length = L at *
  clear hr hid
  by_cases h1 : R ≤ I
  · have i1 : (R : Int) ≤ (I : Int) := by omega
    by_cases h2 : I ≤ R + 7
    · have i2 : (I : Int) ≤ (R : Int) + 7 := by omega
      rw [if_pos ⟨h1, h2⟩]
      go_enter Tryd.func70, Tryd.ntmps70
      go_wp2_with fail
      refine (HD.out _ _ _ rfl).mono ?_
      rintro e w1 ⟨rfl, rfl⟩
      go_wp2
      go_ret
      exact ⟨by simp, Below.refl _ _⟩
    · have i2 : ¬ ((I : Int) ≤ (R : Int) + 7) := by omega
      have i3 : (R : Int) + 7 < (I : Int) := by omega
      rw [if_neg (fun h => h2 h.2)]
      go_enter Tryd.func70, Tryd.ntmps70
      go_wp2_with fail
      refine (HD.out _ _ _ rfl).mono ?_
      rintro e w1 ⟨rfl, rfl⟩
      go_wp2
      go_ret
      exact ⟨by simp, Below.refl _ _⟩
  · have i1 : ¬ ((R : Int) ≤ (I : Int)) := by omega
    have i3 : I < R := by omega
    rw [if_neg (fun h => h1 h.1)]
    go_enter Tryd.func70, Tryd.ntmps70
    go_wp2_with fail
    refine (HD.out _ _ _ rfl).mono ?_
    rintro e w1 ⟨rfl, rfl⟩
    go_wp2
    go_ret
    exact ⟨by simp, Below.refl _ _⟩

/-- Whether there is such a message, and it is a state. -/
def Lq.state (m : Mx.M) (i : Int) : Bool := match Lq.noMsg.getMsg m i with | some y => !y.event | none => false
theorem Lq.noMsg_eq (m : Mx.M) (x : Mx.Win) : Lq.noMsg m x = (x.kind == 1 && !Lq.state m x.msg) := by
  unfold Lq.noMsg Lq.state
  cases Lq.noMsg.getMsg m x.msg with
  | none => rfl
  | some y => simp

set_option maxRecDepth 100000 in
set_option maxHeartbeats 4000000 in
theorem ck_isState (w : World) (m : Mx.M) (a : Ma) (i : Int) (hm : MIn w m a) (hS : Mx.Small m) : Calls Tryd.prog 73 #[mV m a, .int .i64 i] w fun e w' => e = .returned (.bool (Lq.state m i)) ∧ Below w.heap.size w w' := by
  have HX : Hid (Bx w (w.alloc (.cells (mCs m a) 27)) w.heap.size m a) := Bx.mk' hm
  have y9 := HX.out.row.mat.2.2.2.2.2.2.2.2.2.1
  have hl : (m.messages.length : Int) ≤ 1000 := by have := hS.b; omega
  have HW1 : Hid (∀ (w1 : World) (b : Bool), Mx.within i 0 ((m.messages.length : Int) - 1) = b → Calls Tryd.prog 65 #[.int .i64 (m.messages.length : Int), .int .i64 i] w1 fun e w' => e = .returned (.bool b) ∧ w' = w1) := fun w1 b hb => hb ▸ ck_has w1 _ i (wfi (by omega))
  show Calls _ _ #[.agg (mCs m a), _] _ _
  generalize mCs m a = cs at HX y9 ⊢
  clear hm hS
  unfold Lq.state Lq.noMsg.getMsg
  cases h1 : Mx.within i 0 ((m.messages.length : Int) - 1)
  · have hN : (if 0 ≤ i then m.messages[i.toNat]? else none) = none := by
      split
      · refine List.getElem?_eq_none ?_
        unfold Mx.within at h1
        simp at h1
        omega
      · rfl
    rw [hN]
    go_enter Tryd.func73, Tryd.ntmps73
    go_wp2_with fail
    refine (HW1.out _ _ h1).mono ?_
    rintro e w9 ⟨rfl, rfl⟩
    go_wp2
    go_ret
    exact ⟨rfl, HX.out.below⟩
  · rw [Pq.within_iff] at h1
    obtain ⟨k, rfl⟩ := Int.eq_ofNat_of_zero_le h1.1
    have hk : k < m.messages.length := by omega
    obtain ⟨y, hy⟩ : ∃ y, m.messages[k]? = some y := ⟨_, List.getElem?_eq_getElem hk⟩
    rw [if_pos h1.1, Int.toNat_natCast, hy]
    have hki : (k : Int) < (m.messages.length : Int) := by omega
    have hw : Mx.within (k : Int) 0 ((m.messages.length : Int) - 1) = true := Pq.within_iff.2 h1
    obtain ⟨g, o, hs, _, _, _, c2⟩ := HX.out.mem.message hy
    rw [hs] at y9
    have HC := HW1.out (w.alloc (.cells cs 27)) _ hw
    clear h1 hw hs hy HW1 hk
    generalize m.messages.length = L at *
    go_enter Tryd.func73, Tryd.ntmps73
    go_wp2_with fail
    refine HC.mono ?_
    rintro e w9 ⟨rfl, rfl⟩
    go_wp2
    go_ret
    exact ⟨rfl, HX.out.below⟩

set_option maxRecDepth 100000 in
set_option maxHeartbeats 4000000 in
theorem ck_hasRoom (w : World) (x : Mx.Win) (st : Int) (h1 : 0 ≤ x.start ∧ x.start < 65536) (h2 : 0 ≤ x.fin ∧ x.fin < 65536) : Calls Tryd.prog 74 #[.agg (mC3 x).toArray, .int .i64 st] w fun e w' => e = .returned (.bool (!(decide (x.start < st) || x.kind != 3 && decide (x.fin - x.start < st)))) ∧ Below w.heap.size w w' := by
  have r1 : RowT 58 (w.alloc (.cells (mC3 x).toArray 58)) w.heap.size (mC3 x).toArray := RowT.new _ w _
  have HB : Hid (Below w.heap.size w (w.alloc (.cells (mC3 x).toArray 58))) := (Below.refl _ _).alloc (Nat.le_refl _) _
  have x0 := r1.c 0 (.int .i64 x.kind) rfl
  have x1 := r1.c 1 (.int .i64 x.start) rfl
  have x2 := r1.c 2 (.int .i64 x.fin) rfl
  clear r1
  generalize (mC3 x).toArray = cx at *
  generalize x.kind = K at *
  generalize x.start = S at *
  generalize x.fin = E at *
  obtain ⟨a1, a2⟩ := h1
  obtain ⟨a3, a4⟩ := h2
  by_cases c1 : S < st
  · rw [decide_eq_true c1, Bool.true_or]
    have c1' : ¬ (st ≤ S) := by omega
    go_enter Tryd.func74, Tryd.ntmps74
    go_wp2
    go_ret
    exact ⟨rfl, HB.out⟩
  · rw [decide_eq_false c1, Bool.false_or]
    have c1' : st ≤ S := by omega
    by_cases c2 : K = 3
    · subst c2
      go_enter Tryd.func74, Tryd.ntmps74
      go_wp2
      go_ret
      exact ⟨rfl, HB.out⟩
    · have c2' : (K == 3) = false := by simpa using c2
      rw [show (K != 3) = true by simpa [bne] using c2, Bool.true_and]
      by_cases c3 : E - S < st
      · rw [decide_eq_true c3]
        have c3' : ¬ (st ≤ E - S) := by omega
        go_enter Tryd.func74, Tryd.ntmps74
        go_wp2
        go_ret
        exact ⟨rfl, HB.out⟩
      · rw [decide_eq_false c3]
        have c3' : st ≤ E - S := by omega
        go_enter Tryd.func74, Tryd.ntmps74
        go_wp2
        go_ret
        exact ⟨rfl, HB.out⟩

set_option maxRecDepth 100000 in
set_option maxHeartbeats 4000000 in
theorem ck_meets (W w : World) (p : Nat) (m : Mx.M) (a : Ma) (j k : Nat) (hX : Bx W w p m a) (hi : Mx.is m = true) : Calls Tryd.prog 75 #[.int .i64 (j : Int), .int .i64 (k : Int), Ob.ptr p] w fun e w' => e = .returned (.int .i64 (if Lq.meet m (j : Int) (k : Int) then 143 else 0)) ∧ Below w.heap.size w w' := by
  obtain ⟨y0, y1, y2, y3, y4, y5, y6, y7, y8, y9, y10⟩ := hX.row.mat
  have HC : Hid (Calls Tryd.prog 76 #[mV m a, .int .i64 (j : Int), .int .i64 (k : Int)] w fun e w' => e = .returned (.bool (Lq.meet m (j : Int) (k : Int))) ∧ Below w.heap.size w w') := ck_meet w m a _ _ hX.mem (Mx.small_is hi) (Mx.wf_is hi)
  clear hX hi
  generalize Lq.meet m (j : Int) (k : Int) = b at *
  obtain ⟨R, hR⟩ : ∃ R, (if b then (143 : Int) else 0) = R := ⟨_, rfl⟩
  rw [hR]
  have HD : Hid (∀ w1, Calls Tryd.prog 64 #[.bool b, .int .i64 143] w1 fun e w' => e = .returned (.int .i64 R) ∧ w' = w1) := fun w1 => ck_tellS w1 _ _ _ hR
  clear hR
  go_enter Tryd.func75, Tryd.ntmps75
  go_wp2_with fail
  refine HC.out.mono ?_
  rintro e w1 ⟨rfl, hb⟩
  clear HC y0 y1 y2 y3 y4 y5 y6 y7 y8 y9 y10
  have HB : Hid (Below w.heap.size w w1) := hb
  clear hb
  go_wp2_with fail
  refine (HD.out _).mono ?_
  rintro e w2 ⟨rfl, rfl⟩
  go_wp2
  go_ret
  exact ⟨rfl, HB.out⟩

set_option maxRecDepth 100000 in
set_option maxHeartbeats 4000000 in
theorem ck_own (W w : World) (p q : Nat) (m : Mx.M) (a : Ma) (k : Nat) (hX : Bx W w p m a) (hq : w.cell? ⟨q, 0, none⟩ = some (.int .i64 (Lq.step m))) (hql : q < w.heap.size) (hi : Mx.is m = true) (hk : k < m.windows.length) : Calls Tryd.prog 72 #[.int .i64 (k : Int), Ob.ptr p, Ob.ptr q] w fun e w' => e = .returned (.int .i64 (Lq.own m k)) ∧ Below w.heap.size w w' := by
  obtain ⟨x, hx⟩ : ∃ x, m.windows[k]? = some x := ⟨_, List.getElem?_eq_getElem hk⟩
  have n := Pq.num_of hi
  obtain ⟨_, n1, n2, _⟩ := n.windows x (List.mem_of_getElem? hx)
  have hl : (m.windows.length : Int) ≤ 1000 := by have := n.l3; omega
  have hki : (k : Int) < (m.windows.length : Int) := by omega
  have he := Lq.own_at hx
  rw [he]
  obtain ⟨g, o, hs, _, c0, c1, c2, c3, c4, c5⟩ := hX.mem.window hx
  have c10 := hX.row.mat.2.2.2.2.2.2.2.2.2.2
  rw [hs] at c10
  have HX : Hid (Bx W w p m a) := hX
  have HQ : Hid (∀ w', Below w.heap.size w w' → w'.cell? ⟨q, 0, none⟩ = some (.int .i64 (Lq.step m))) := fun w' hb => (hb.cell (p := ⟨q, 0, none⟩) hql).trans hq
  have HS : Hid (∀ w1, Bx W w1 p m a → Calls Tryd.prog 73 #[mV m a, .int .i64 x.msg] w1 fun e w' => e = .returned (.bool (Lq.state m x.msg)) ∧ Below w1.heap.size w1 w') := fun w1 h => ck_isState w1 m a x.msg h.mem (Mx.small_is hi)
  have HR : Hid (∀ w1, Calls Tryd.prog 74 #[.agg #[.int .i64 x.kind, .int .i64 x.start, .int .i64 x.fin, .int .i64 x.cycle, .int .i64 x.rep, .int .i64 x.msg], .int .i64 (Lq.step m)] w1 fun e w' => e = .returned (.bool (!Lq.tight m x)) ∧ Below w1.heap.size w1 w') := fun w1 => ck_hasRoom w1 x (Lq.step m) n1 n2
  rw [Lq.noMsg_eq]
  clear hX hq hql hi n n1 n2 hx he hk hs
  generalize m.windows.length = L at *
  generalize Lq.step m = st at *
  generalize Lq.tight m x = tg at *
  generalize Lq.state m x.msg = sb at *
  obtain ⟨R, hR⟩ : ∃ R : Int, (if (x.kind == 1 && !sb) = true then (145 : Int) else if tg = true then 144 else 0) = R := ⟨_, rfl⟩
  rw [hR]
  have HRe : Hid ((if (x.kind == 1 && !sb) = true then (145 : Int) else if tg = true then 144 else 0) = R) := hR
  clear hR
  have hb0 : Below w.heap.size w (w.alloc (.cells #[.int .i64 x.kind, .int .i64 x.start, .int .i64 x.fin, .int .i64 x.cycle, .int .i64 x.rep, .int .i64 x.msg] 58)) := (Below.refl _ _).alloc (Nat.le_refl _) _
  have HW : Hid (RowT 58 (w.alloc (.cells #[.int .i64 x.kind, .int .i64 x.start, .int .i64 x.fin, .int .i64 x.cycle, .int .i64 x.rep, .int .i64 x.msg] 58)) w.heap.size (mC3 x).toArray) := RowT.new _ w _
  replace HX : Hid (Bx W (w.alloc (.cells #[.int .i64 x.kind, .int .i64 x.start, .int .i64 x.fin, .int .i64 x.cycle, .int .i64 x.rep, .int .i64 x.msg] 58)) p m a) := HX.out.on hb0
  have HB : Hid (Below w.heap.size w (w.alloc (.cells #[.int .i64 x.kind, .int .i64 x.start, .int .i64 x.fin, .int .i64 x.cycle, .int .i64 x.rep, .int .i64 x.msg] 58))) := hb0
  clear hb0
  go_enter Tryd.func72, Tryd.ntmps72
  go_upto_region 2 with fail
  generalize w.alloc (.cells #[.int .i64 x.kind, .int .i64 x.start, .int .i64 x.fin, .int .i64 x.cycle, .int .i64 x.rep, .int .i64 x.msg] 58) = v at HX HW HB ⊢
  clear c0 c1 c2 c3 c4 c5 c10
  generalize w.heap.size = r at HW ⊢
  by_cases hk1 : x.kind = 1
  · have hk2 : (x.kind == 1) = true := by simpa using hk1
    have u0 : v.cell? ⟨r, 0, none⟩ = some (.int .i64 1) := by have h := HW.out.c 0 (.int .i64 x.kind) rfl; rw [hk1] at h; exact h
    have u5 : v.cell? ⟨r, 5, none⟩ = some (.int .i64 x.msg) := HW.out.c 5 _ rfl
    obtain ⟨y0, y1, y2, y3, y4, y5, y6, y7, y8, y9, y10⟩ := HX.out.row.mat
    have HC := HS.out v HX.out
    clear HS
    cases sb
    · obtain rfl : R = 145 := by rw [← HRe.out, hk2]; rfl
      clear HRe hk2
      go_wp2_with fail
      refine HC.mono ?_
      rintro e w1 ⟨rfl, hb⟩
      have HB1 : Hid (Below w.heap.size w w1) := HB.out.trans (hb.mono HB.out.size)
      clear hb HC y0 y1 y2 y3 y4 y5 y6 y7 y8 y9 y10 u0 u5
      go_wp2
      go_ret
      exact ⟨rfl, HB1.out⟩
    · replace HRe : Hid ((if tg = true then (144 : Int) else 0) = R) := by have h := HRe.out; rw [hk2] at h; exact h
      clear hk2
      go_wp2_with fail
      refine HC.mono ?_
      rintro e w1 ⟨rfl, hb⟩
      have HB1 : Hid (Below w.heap.size w w1) := HB.out.trans (hb.mono HB.out.size)
      have HW1 : Hid (RowT 58 w1 r (mC3 x).toArray) := HW.out.on hb
      clear hb HC HW HB HX y0 y1 y2 y3 y4 y5 y6 y7 y8 y9 y10 u0 u5 hk1
      have u0 : w1.cell? ⟨r, 0, none⟩ = some (.int .i64 x.kind) := HW1.out.c 0 _ rfl
      have u1 : w1.cell? ⟨r, 1, none⟩ = some (.int .i64 x.start) := HW1.out.c 1 _ rfl
      have u2 : w1.cell? ⟨r, 2, none⟩ = some (.int .i64 x.fin) := HW1.out.c 2 _ rfl
      have u3 : w1.cell? ⟨r, 3, none⟩ = some (.int .i64 x.cycle) := HW1.out.c 3 _ rfl
      have u4 : w1.cell? ⟨r, 4, none⟩ = some (.int .i64 x.rep) := HW1.out.c 4 _ rfl
      have u5 : w1.cell? ⟨r, 5, none⟩ = some (.int .i64 x.msg) := HW1.out.c 5 _ rfl
      have s0 := HQ.out w1 HB1.out
      go_wp2_with fail
      refine (HR.out _).mono ?_
      rintro e w2 ⟨rfl, hb⟩
      have HB2 : Hid (Below w.heap.size w w2) := HB1.out.trans (hb.mono HB1.out.size)
      clear hb u0 u1 u2 u3 u4 u5 s0
      cases tg
      · obtain rfl : R = 0 := HRe.out.symm
        go_wp2_with fail
        refine (ck_tellS _ _ _ _ rfl).mono ?_
        rintro e w3 ⟨rfl, rfl⟩
        go_wp2
        go_ret
        exact ⟨rfl, HB2.out⟩
      · obtain rfl : R = 144 := HRe.out.symm
        go_wp2_with fail
        refine (ck_tellS _ _ _ _ rfl).mono ?_
        rintro e w3 ⟨rfl, rfl⟩
        go_wp2
        go_ret
        exact ⟨rfl, HB2.out⟩
  · have hk2 : (x.kind == 1) = false := by simpa using hk1
    replace HRe : Hid ((if tg = true then (144 : Int) else 0) = R) := by have h := HRe.out; rw [hk2] at h; exact h
    have u0 : v.cell? ⟨r, 0, none⟩ = some (.int .i64 x.kind) := HW.out.c 0 _ rfl
    have u1 : v.cell? ⟨r, 1, none⟩ = some (.int .i64 x.start) := HW.out.c 1 _ rfl
    have u2 : v.cell? ⟨r, 2, none⟩ = some (.int .i64 x.fin) := HW.out.c 2 _ rfl
    have u3 : v.cell? ⟨r, 3, none⟩ = some (.int .i64 x.cycle) := HW.out.c 3 _ rfl
    have u4 : v.cell? ⟨r, 4, none⟩ = some (.int .i64 x.rep) := HW.out.c 4 _ rfl
    have u5 : v.cell? ⟨r, 5, none⟩ = some (.int .i64 x.msg) := HW.out.c 5 _ rfl
    have s0 := HQ.out v HB.out
    go_wp2_with fail
    refine (HR.out _).mono ?_
    rintro e w2 ⟨rfl, hb⟩
    have HB2 : Hid (Below w.heap.size w w2) := HB.out.trans (hb.mono HB.out.size)
    clear hb u0 u1 u2 u3 u4 u5 s0
    cases tg
    · obtain rfl : R = 0 := HRe.out.symm
      go_wp2_with fail
      refine (ck_tellS _ _ _ _ rfl).mono ?_
      rintro e w3 ⟨rfl, rfl⟩
      go_wp2
      go_ret
      exact ⟨rfl, HB2.out⟩
    · obtain rfl : R = 144 := HRe.out.symm
      go_wp2_with fail
      refine (ck_tellS _ _ _ _ rfl).mono ?_
      rintro e w3 ⟨rfl, rfl⟩
      go_wp2
      go_ret
      exact ⟨rfl, HB2.out⟩

end Go.Proofs.YtnbfnipdiffphaaDoor
