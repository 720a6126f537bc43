/- ConfineApart: what was sent changes one counter, what came the other one. No condition. -/
import Derived.Test.YtnldihejdhceoaaKk
import Derived.Test.YtnldihejdhceoaaKn
import Derived.Test.YtnldihejdhceoaaLw
import Derived.Deep.RegionHeld3
import Derived.Deep.DrawnRows
import Derived.Deep.CutRange
namespace Go.Proofs.Ytnldihejdhceoaa.confineApart
open Go.ChangeShapes Go.WideShapes Go.ChangeAt Go.RowKit
set_option linter.unusedVariables false
attribute [local go_sem ↓] Go.wp_at_zero Go.wp_at_succ
theorem wf_k {n : Int} (h1 : 0 ≤ n) (h2 : n ≤ 1001) : (Lit.int .i64 n).wf = true := WalkArith.wf_i64 ⟨by omega, by omega⟩
theorem onW {w w' : World} {b : Nat} {s g : Int} (hb : Below w.heap.size w w') (h : LiesC w b s g) : LiesC w' b s g := h.on hb
theorem bjoin {a b c : World} (h2 : Below b.heap.size b c) (h : Below a.heap.size a b) : Below a.heap.size a c := below_joinC h h2
theorem LiesC.setO {w : World} {b : Nat} {s g : Int} {a : Addr} {v : Value} (h : LiesC w b s g) (hne : b ≠ a.block) : LiesC (w.setCell a v) b s g := (heap_setCell_other _ _ _ _ hne).trans h
theorem LiesC.drewO {w : World} {b : Nat} {s g : Int} (h : LiesC w b s g) : LiesC w.drew b s g := h
theorem bel2 {W w : World} (h : Below W.heap.size W w) (o o' : Obj) : Below W.heap.size W ((w.alloc o).alloc o') := (h.alloc h.size _).alloc (by simp; exact Nat.le_succ_of_le h.size) _
theorem LiesC.new3 (w : World) (o o' : Obj) (s g : Int) : LiesC (((w.alloc o).alloc o').alloc (.cells #[.int .i64 s, .int .i64 g] 23)) (w.heap.size + 2) s g := by
  have h := LiesC.new ((w.alloc o).alloc o') s g
  have e : ((w.alloc o).alloc o').heap.size = w.heap.size + 2 := by simp
  rw [e] at h
  exact h
theorem LiesC.newAt {w : World} {b : Nat} {s g : Int} (e : w.heap.size = b) : LiesC (w.alloc (.cells #[.int .i64 s, .int .i64 g] 23)) b s g := e ▸ LiesC.new w s g
set_option maxRecDepth 100000 in
set_option maxHeartbeats 4000000 in
theorem walkN (a b : Nat) (ok : Bool) (W : World) : Calls Try.prog 6 #[.int .u16 (a : Int), .int .u16 (b : Int), .bool ok] W fun e w' => e = .returned (.bool true) ∧ Below W.heap.size W w' := by
  obtain ⟨S, hS⟩ : ∃ S, (a : Int) % 1001 = S := ⟨_, rfl⟩
  obtain ⟨G, hG⟩ : ∃ G, (b : Int) % 1001 = G := ⟨_, rfl⟩
  have s1 : 0 ≤ S := by omega
  have s2 : S ≤ 1000 := by omega
  have g1 : 0 ≤ G := by omega
  have g2 : G ≤ 1000 := by omega
  have hi := Km.isC_true s1 s2 g1 g2
  have HS : Hid (∀ w, Calls Try.prog 9 #[.agg #[.int .i64 S, .int .i64 G], .bool ok] w fun e w' => e = .returned (.agg #[.int .i64 (Km.sentV S ok), .int .i64 G]) ∧ Below w.heap.size w w') := fun w => by
    have h := kSent_any S G ok w (wf_k s1 (by omega)) (wf_k g1 (by omega))
    unfold Km.sentS at h
    rw [hi, if_pos rfl] at h
    exact h
  have HG : Hid (∀ w, Calls Try.prog 11 #[.agg #[.int .i64 S, .int .i64 G], .bool ok] w fun e w' => e = .returned (.agg #[.int .i64 S, .int .i64 (Km.gotV G ok)]) ∧ Below w.heap.size w w') := fun w => by
    have h := kGot_any S G ok w (wf_k s1 (by omega)) (wf_k g1 (by omega))
    unfold Km.gotG at h
    rw [hi, if_pos rfl] at h
    exact h
  have HSd : Hid (∀ w, Calls Try.prog 9 #[.agg #[.int .i64 1001, .int .i64 3], .bool ok] w fun e w' => e = .returned (.agg #[.int .i64 1001, .int .i64 3]) ∧ Below w.heap.size w w') := fun w => kSent_any 1001 3 ok w (by decide) (by decide)
  have HGd : Hid (∀ w, Calls Try.prog 11 #[.agg #[.int .i64 1001, .int .i64 3], .bool ok] w fun e w' => e = .returned (.agg #[.int .i64 1001, .int .i64 3]) ∧ Below w.heap.size w w') := fun w => kGot_any 1001 3 ok w (by decide) (by decide)
  have HId : Hid (∀ w, Calls Try.prog 8 #[.agg #[.int .i64 1001, .int .i64 3]] w fun e w' => e = .returned (.bool false) ∧ Below w.heap.size w w') := fun w => kIs_any 1001 3 w (by decide) (by decide)
  have HV : Hid (Km.sentV S ok = if ok then max 0 (S - 1) else min 1000 (S + 8)) := rfl
  generalize Km.sentV S ok = A at *
  generalize Km.gotV G ok = B at *
  clear hi
  go_enter Try.func6, Try.ntmps6
  go_wp2_with fail
  refine (known5_any _).mono ?_
  rintro e w1 ⟨rfl, hb1⟩
  have L0 : Hid (LiesC _ _ _ _) := LiesC.new w1 S G
  have hA : Hid (Below W.heap.size W _) := hb1.alloc hb1.size (.cells #[.int .i64 S, .int .i64 G] 23)
  have hw1 := hb1.size
  clear hb1
  go_wp2_with fail
  clear hS hG
  go_cut [8, 9] from 20 (fun pa pb wx => ∃ ba bb : Nat, pa = .pointer (some ⟨ba, 0, none⟩) ∧ pb = .pointer (some ⟨bb, 0, none⟩) ∧ Hid (LiesC wx ba A G) ∧ Hid (LiesC wx bb S B) ∧ Hid (LiesC wx w1.heap.size S G) ∧ Hid (Below W.heap.size W wx))
  case first =>
    have a0 := L0.out.c0
    have a1 := L0.out.c1
    clear HSd HGd HId
    go_region_held3 (fun w' => w'.cell? ⟨w1.heap.size, 0, none⟩ = some (.int .i64 S) ∧ w'.cell? ⟨w1.heap.size, 1, none⟩ = some (.int .i64 G)) (refine ⟨LiesC.c0 (g := G) ?_, LiesC.c1 (s := S) ?_⟩ <;> (repeat (first | with_reducible exact L0.out | with_reducible refine LiesC.drewO ?_ | with_reducible refine LiesC.alloc ?_ _ | with_reducible refine LiesC.setO ?_ (by (try simp) <;> omega))))
      (first | (go_at_call 9; refine (HS.out _).mono ?_; rintro e w' ⟨rfl, hb'⟩; replace L0 : Hid (LiesC w' _ S G) := (by show LiesC _ _ _ _; first | with_reducible exact onW hb' (LiesC.drewO L0.out) | with_reducible exact onW hb' (LiesC.drewO (LiesC.alloc L0.out _)) | with_reducible exact onW hb' (LiesC.drewO (LiesC.alloc (LiesC.alloc L0.out _) _))); replace hA : Hid (Below W.heap.size W w') := (by show Below _ _ _; first | with_reducible exact bjoin hb' hA.out.drew | with_reducible exact bjoin hb' (hA.out.alloc hA.out.size _).drew | with_reducible exact bjoin hb' (bel2 hA.out _ _).drew); (try clear a0 a1); have hAs := hA.out.size; have a0L := L0.out.lt; have a0 := L0.out.c0; have a1 := L0.out.c1; (first | ((have M : Hid (LiesC w' (w1.heap.size + 1) 0 0) := (by show LiesC _ _ _ _; with_reducible exact onW hb' (LiesC.drewO (LiesC.alloc (LiesC.new2 _ _ 0 0) (.cells #[.int .i64 0, .int .i64 0] 23))))); (have N : Hid (LiesC w' (w1.heap.size + 2) 0 0) := (by show LiesC _ _ _ _; with_reducible exact onW hb' (LiesC.drewO (LiesC.new3 _ _ _ 0 0)))); have Mc0 := M.out.c0; have Mc0a := fun o => (M.out.alloc o).c0; have Mc0b := fun o o' => ((M.out.alloc o).alloc o').c0; have Mc1 := M.out.c1; have Mc1a := fun o => (M.out.alloc o).c1; have Mc1b := fun o o' => ((M.out.alloc o).alloc o').c1; have Mf0 := M.out.f0; have Mf0a := fun o => (M.out.alloc o).f0; have Mf0b := fun o o' => ((M.out.alloc o).alloc o').f0; have Mf1 := M.out.f1; have Mf1a := fun o => (M.out.alloc o).f1; have Mf1b := fun o o' => ((M.out.alloc o).alloc o').f1; have ML := M.out.lt; have Nc0 := N.out.c0; have Nc0a := fun o => (N.out.alloc o).c0; have Nc0b := fun o o' => ((N.out.alloc o).alloc o').c0; have Nc1 := N.out.c1; have Nc1a := fun o => (N.out.alloc o).c1; have Nc1b := fun o o' => ((N.out.alloc o).alloc o').c1; have Nf0 := N.out.f0; have Nf0a := fun o => (N.out.alloc o).f0; have Nf0b := fun o o' => ((N.out.alloc o).alloc o').f0; have Nf1 := N.out.f1; have Nf1a := fun o => (N.out.alloc o).f1; have Nf1b := fun o o' => ((N.out.alloc o).alloc o').f1; have NL := N.out.lt) | ((have M : Hid (LiesC w' (w1.heap.size + 1) 0 0) := (by show LiesC _ _ _ _; with_reducible exact onW hb' (LiesC.drewO (LiesC.new2 _ _ 0 0)))); have Mc0 := M.out.c0; have Mc0a := fun o => (M.out.alloc o).c0; have Mc0b := fun o o' => ((M.out.alloc o).alloc o').c0; have Mc1 := M.out.c1; have Mc1a := fun o => (M.out.alloc o).c1; have Mc1b := fun o o' => ((M.out.alloc o).alloc o').c1; have Mf0 := M.out.f0; have Mf0a := fun o => (M.out.alloc o).f0; have Mf0b := fun o o' => ((M.out.alloc o).alloc o').f0; have Mf1 := M.out.f1; have Mf1a := fun o => (M.out.alloc o).f1; have Mf1b := fun o o' => ((M.out.alloc o).alloc o').f1; have ML := M.out.lt) | skip); clear hb') | (go_at_call 11; refine (HG.out _).mono ?_; rintro e w' ⟨rfl, hb'⟩; replace L0 : Hid (LiesC w' _ S G) := (by show LiesC _ _ _ _; first | with_reducible exact onW hb' (L0.out) | with_reducible exact onW hb' ((LiesC.alloc L0.out _)) | with_reducible exact onW hb' ((LiesC.alloc (LiesC.alloc L0.out _) _))); replace hA : Hid (Below W.heap.size W w') := (by show Below _ _ _; first | with_reducible exact bjoin hb' hA.out | with_reducible exact bjoin hb' (hA.out.alloc hA.out.size _) | with_reducible exact bjoin hb' (bel2 hA.out _ _)); (try clear a0 a1); have hAt := hA.out.size; have a0M := L0.out.lt; have a0 := L0.out.c0; have a1 := L0.out.c1; (try (clear Mc0 Mc0a Mc0b Mc1 Mc1a Mc1b Mf0 Mf0a Mf0b Mf1 Mf1a Mf1b; replace M : Hid (LiesC w' _ 0 0) := (by show LiesC _ _ _ _; first | with_reducible exact onW hb' (M.out) | with_reducible exact onW hb' ((LiesC.alloc M.out _)) | with_reducible exact onW hb' ((LiesC.alloc (LiesC.alloc M.out _) _))); have Mc0 := M.out.c0; have Mc0a := fun o => (M.out.alloc o).c0; have Mc0b := fun o o' => ((M.out.alloc o).alloc o').c0; have Mc1 := M.out.c1; have Mc1a := fun o => (M.out.alloc o).c1; have Mc1b := fun o o' => ((M.out.alloc o).alloc o').c1; have Mf0 := M.out.f0; have Mf0a := fun o => (M.out.alloc o).f0; have Mf0b := fun o o' => ((M.out.alloc o).alloc o').f0; have Mf1 := M.out.f1; have Mf1a := fun o => (M.out.alloc o).f1; have Mf1b := fun o o' => ((M.out.alloc o).alloc o').f1; have ML := M.out.lt)); (try (clear Nc0 Nc0a Nc0b Nc1 Nc1a Nc1b Nf0 Nf0a Nf0b Nf1 Nf1a Nf1b; replace N : Hid (LiesC w' _ 0 0) := (by show LiesC _ _ _ _; first | with_reducible exact onW hb' (N.out) | with_reducible exact onW hb' ((LiesC.alloc N.out _)) | with_reducible exact onW hb' ((LiesC.alloc (LiesC.alloc N.out _) _))); have Nc0 := N.out.c0; have Nc0a := fun o => (N.out.alloc o).c0; have Nc0b := fun o o' => ((N.out.alloc o).alloc o').c0; have Nc1 := N.out.c1; have Nc1a := fun o => (N.out.alloc o).c1; have Nc1b := fun o o' => ((N.out.alloc o).alloc o').c1; have Nf0 := N.out.f0; have Nf0a := fun o => (N.out.alloc o).f0; have Nf0b := fun o o' => ((N.out.alloc o).alloc o').f0; have Nf1 := N.out.f1; have Nf1a := fun o => (N.out.alloc o).f1; have Nf1b := fun o o' => ((N.out.alloc o).alloc o').f1; have NL := N.out.lt)); (first | ((have U : Hid (LiesC w' _ 0 0) := (by show LiesC _ _ _ _; with_reducible exact onW hb' (LiesC.old2 _ 0 0 (.cells #[.int .i64 0, .int .i64 0] 23)))); (have V : Hid (LiesC w' _ 0 0) := (by show LiesC _ _ _ _; with_reducible exact onW hb' (LiesC.new2 _ _ 0 0))); have Uc0 := U.out.c0; have Uc0a := fun o => (U.out.alloc o).c0; have Uc0b := fun o o' => ((U.out.alloc o).alloc o').c0; have Uc1 := U.out.c1; have Uc1a := fun o => (U.out.alloc o).c1; have Uc1b := fun o o' => ((U.out.alloc o).alloc o').c1; have Uf0 := U.out.f0; have Uf0a := fun o => (U.out.alloc o).f0; have Uf0b := fun o o' => ((U.out.alloc o).alloc o').f0; have Uf1 := U.out.f1; have Uf1a := fun o => (U.out.alloc o).f1; have Uf1b := fun o o' => ((U.out.alloc o).alloc o').f1; have UL := U.out.lt; have Vc0 := V.out.c0; have Vc0a := fun o => (V.out.alloc o).c0; have Vc0b := fun o o' => ((V.out.alloc o).alloc o').c0; have Vc1 := V.out.c1; have Vc1a := fun o => (V.out.alloc o).c1; have Vc1b := fun o o' => ((V.out.alloc o).alloc o').c1; have Vf0 := V.out.f0; have Vf0a := fun o => (V.out.alloc o).f0; have Vf0b := fun o o' => ((V.out.alloc o).alloc o').f0; have Vf1 := V.out.f1; have Vf1a := fun o => (V.out.alloc o).f1; have Vf1b := fun o o' => ((V.out.alloc o).alloc o').f1; have VL := V.out.lt) | ((have U : Hid (LiesC w' _ 0 0) := (by show LiesC _ _ _ _; with_reducible exact onW hb' (LiesC.new _ 0 0))); have Uc0 := U.out.c0; have Uc0a := fun o => (U.out.alloc o).c0; have Uc0b := fun o o' => ((U.out.alloc o).alloc o').c0; have Uc1 := U.out.c1; have Uc1a := fun o => (U.out.alloc o).c1; have Uc1b := fun o o' => ((U.out.alloc o).alloc o').c1; have Uf0 := U.out.f0; have Uf0a := fun o => (U.out.alloc o).f0; have Uf0b := fun o o' => ((U.out.alloc o).alloc o').f0; have Uf1 := U.out.f1; have Uf1a := fun o => (U.out.alloc o).f1; have Uf1b := fun o o' => ((U.out.alloc o).alloc o').f1; have UL := U.out.lt) | skip); clear hb'))
    all_goals
      go_wp2_with fail
      go_meet
      case rel =>
        refine ⟨_, _, rfl, rfl, ?_, ?_, ?_, ?_⟩
        · show LiesC _ _ _ _
          (repeat (first | with_reducible exact L0.out | with_reducible exact M.out | with_reducible exact N.out | with_reducible exact U.out | with_reducible exact V.out | with_reducible exact LiesC.new _ _ _ | with_reducible exact LiesC.new2 _ _ _ _ | with_reducible exact LiesC.old2 _ _ _ _ | (with_reducible refine LiesC.newAt ?_; simp; done) | with_reducible refine LiesC.drewO ?_ | with_reducible refine LiesC.alloc ?_ _ | with_reducible refine two_cellsC (s := 0) (g := 0) ?_ | with_reducible refine LiesC.setO ?_ (by (try simp) <;> omega)))
        · show LiesC _ _ _ _
          (repeat (first | with_reducible exact L0.out | with_reducible exact M.out | with_reducible exact N.out | with_reducible exact U.out | with_reducible exact V.out | with_reducible exact LiesC.new _ _ _ | with_reducible exact LiesC.new2 _ _ _ _ | with_reducible exact LiesC.old2 _ _ _ _ | (with_reducible refine LiesC.newAt ?_; simp; done) | with_reducible refine LiesC.drewO ?_ | with_reducible refine LiesC.alloc ?_ _ | with_reducible refine two_cellsC (s := 0) (g := 0) ?_ | with_reducible refine LiesC.setO ?_ (by (try simp) <;> omega)))
        · show LiesC _ _ _ _
          (repeat (first | with_reducible exact L0.out | with_reducible exact M.out | with_reducible exact N.out | with_reducible exact U.out | with_reducible exact V.out | with_reducible exact LiesC.new _ _ _ | with_reducible exact LiesC.new2 _ _ _ _ | with_reducible exact LiesC.old2 _ _ _ _ | (with_reducible refine LiesC.newAt ?_; simp; done) | with_reducible refine LiesC.drewO ?_ | with_reducible refine LiesC.alloc ?_ _ | with_reducible refine two_cellsC (s := 0) (g := 0) ?_ | with_reducible refine LiesC.setO ?_ (by (try simp) <;> omega)))
        · show Below _ _ _
          (repeat (first | with_reducible exact hA.out | with_reducible refine Below.drew ?_ | with_reducible refine Below.alloc ?_ (by (try simp) <;> omega) _ | with_reducible refine Below.setCell ?_ (by (try simp) <;> omega) _))
  case rest =>
    obtain ⟨ba, bb, rfl, rfl, La, Lb, L1, hA1⟩ := hcut
    clear L0 hA
    go_wp2_with fail
    have L0 : Hid (LiesC (wc.alloc (.cells #[.int .i64 1001, .int .i64 3] 23)) w1.heap.size S G) := L1.out.alloc _
    replace La : Hid (LiesC (wc.alloc (.cells #[.int .i64 1001, .int .i64 3] 23)) ba A G) := La.out.alloc _
    replace Lb : Hid (LiesC (wc.alloc (.cells #[.int .i64 1001, .int .i64 3] 23)) bb S B) := Lb.out.alloc _
    have Ld : Hid (LiesC (wc.alloc (.cells #[.int .i64 1001, .int .i64 3] 23)) wc.heap.size 1001 3) := LiesC.new _ _ _
    have hA : Hid (Below W.heap.size W (wc.alloc (.cells #[.int .i64 1001, .int .i64 3] 23))) := hA1.out.alloc hA1.out.size _
    clear L1 hA1 HS HG
    generalize wc.alloc (.cells #[.int .i64 1001, .int .i64 3] 23) = wd at L0 La Lb Ld hA ⊢
    cases ok
    · have hF : decide (A < S) = false := decide_eq_false (by rw [HV.out]; simp; omega)
      clear HV s1 s2 g1 g2 hw1
      refine Lw.wp_region_quiet_below (by kernel_rfl) (by kernel_rfl) ?_
      repeat (first
        | go_big_quiet_skip
        | (go_big_quiet_want; go_big_quiet_op; go_big_quiet_on)
        | (go_big_quiet_want; go_big_quiet_op; apply Exists.intro; refine ⟨fun _ hb' => ?_, ?_⟩; (first
          | exact Lw.val_rfl _
          | (go_at_call 9; exact Lw.calls_below hb' (HSd.out _))
          | (go_at_call 11; exact Lw.calls_below hb' (HGd.out _))
          | (go_at_call 8; exact Lw.calls_below hb' (HId.out _))
          | (simp [go_sem, (La.out.on hb').c0]; rfl)
          | (simp [go_sem, (La.out.on hb').c1]; rfl)
          | (simp [go_sem, (Lb.out.on hb').c0]; rfl)
          | (simp [go_sem, (Lb.out.on hb').c1]; rfl)
          | (simp [go_sem, (L0.out.on hb').c0]; rfl)
          | (simp [go_sem, (L0.out.on hb').c1]; rfl)
          | (simp [go_sem, (Ld.out.on hb').c0, (Ld.out.on hb').c1]; rfl)
          | (simp [go_sem, hF]; rfl)); go_big_quiet_on))
      refine wpQuiet_nil ?_
      intro w9 hb9
      have hA9 := below_joinC hA.out hb9
      go_wp2
      go_ret
      exact ⟨rfl, hA9⟩
    · by_cases hS0 : S = 0
      · have hA0 : A = 0 := by rw [HV.out, if_pos rfl]; omega
        subst hS0 hA0
        clear HV s1 s2 g1 g2 hw1
        refine Lw.wp_region_quiet_below (by kernel_rfl) (by kernel_rfl) ?_
        repeat (first
          | go_big_quiet_skip
          | (go_big_quiet_want; go_big_quiet_op; go_big_quiet_on)
          | (go_big_quiet_want; go_big_quiet_op; apply Exists.intro; refine ⟨fun _ hb' => ?_, ?_⟩; (first
            | exact Lw.val_rfl _
            | (go_at_call 9; exact Lw.calls_below hb' (HSd.out _))
            | (go_at_call 11; exact Lw.calls_below hb' (HGd.out _))
            | (go_at_call 8; exact Lw.calls_below hb' (HId.out _))
            | (simp [go_sem, (La.out.on hb').c0]; rfl)
            | (simp [go_sem, (La.out.on hb').c1]; rfl)
            | (simp [go_sem, (Lb.out.on hb').c0]; rfl)
            | (simp [go_sem, (Lb.out.on hb').c1]; rfl)
            | (simp [go_sem, (L0.out.on hb').c0]; rfl)
            | (simp [go_sem, (L0.out.on hb').c1]; rfl)
            | (simp [go_sem, (Ld.out.on hb').c0, (Ld.out.on hb').c1]; rfl)); go_big_quiet_on))
        refine wpQuiet_nil ?_
        intro w9 hb9
        have hA9 := below_joinC hA.out hb9
        go_wp2
        go_ret
        exact ⟨rfl, hA9⟩
      · have hF : decide (A < S) = true := decide_eq_true (by rw [HV.out]; simp; omega)
        clear HV s1 s2 g1 g2 hw1 hS0
        refine Lw.wp_region_quiet_below (by kernel_rfl) (by kernel_rfl) ?_
        repeat (first
          | go_big_quiet_skip
          | (go_big_quiet_want; go_big_quiet_op; go_big_quiet_on)
          | (go_big_quiet_want; go_big_quiet_op; apply Exists.intro; refine ⟨fun _ hb' => ?_, ?_⟩; (first
            | exact Lw.val_rfl _
            | (go_at_call 9; exact Lw.calls_below hb' (HSd.out _))
            | (go_at_call 11; exact Lw.calls_below hb' (HGd.out _))
            | (go_at_call 8; exact Lw.calls_below hb' (HId.out _))
            | (simp [go_sem, (La.out.on hb').c0]; rfl)
            | (simp [go_sem, (La.out.on hb').c1]; rfl)
            | (simp [go_sem, (Lb.out.on hb').c0]; rfl)
            | (simp [go_sem, (Lb.out.on hb').c1]; rfl)
            | (simp [go_sem, (L0.out.on hb').c0]; rfl)
            | (simp [go_sem, (L0.out.on hb').c1]; rfl)
            | (simp [go_sem, (Ld.out.on hb').c0, (Ld.out.on hb').c1]; rfl)
            | (simp [go_sem, hF]; rfl)); go_big_quiet_on))
        refine wpQuiet_nil ?_
        intro w9 hb9
        have hA9 := below_joinC hA.out hb9
        go_wp2
        go_ret
        exact ⟨rfl, hA9⟩
theorem walk (a0 : Int) (w0 : (Lit.int .u16 a0).wf = true) (a1 : Int) (w1 : (Lit.int .u16 a1).wf = true) (ok : Bool) (W : World) : Calls Try.prog 6 #[.int .u16 a0, .int .u16 a1, .bool ok] W fun e w' => e = .returned (.bool true) ∧ Below W.heap.size W w' := by
  obtain ⟨h1, h2⟩ := bounds_u16 w0
  obtain ⟨n, rfl⟩ := Int.eq_ofNat_of_zero_le h1
  obtain ⟨h3, h4⟩ := bounds_u16 w1
  obtain ⟨m, rfl⟩ := Int.eq_ofNat_of_zero_le h3
  exact walkN n m ok W
theorem own : ownKnob Try.prog.godebug = none := by kernel_rfl
set_option maxRecDepth 100000 in
theorem lifted (os : Os) (started : os.Started) (H : Type) (enc : TypeId × Value → H) :
    ReturnsInHanded {} Try.checked os 6 .any (Rows.confineApartSpec.pre6 enc Try.prog Try.f6 Rows.confineApartRow.domain false) (Rows.confineApartSpec.post enc Try.prog Try.f6 false true false false) := by
  refine returnsInHanded_of_change (C := Try.checked) own started (by kernel_rfl) Try.func6
    (ChangeSpec.witness6 (enc := enc) (C := Try.checked) false ⟨#[], #[.int .u16 0, .int .u16 0, .bool false], []⟩ 8 (by kernel_rfl) (by kernel_rfl) (by kernel_rfl) (by kernel_rfl)) ?_
  intro W base args ds gs before hval0 hW hcnd _
  have hval : ∀ (j : Nat) t v, Try.f6.params[j]? = some t → args[j]? = some v → Value.okWide Try.prog W .any base t v := hval0
  have hW' := hW
  obtain ⟨p, q, hA0, hV, rfl, hfz, hnd⟩ := hW
  have hA : DataW.TrodAll enc Try.prog W 0 (fun _ => true) true Try.f6.params.toList args.toList ds p := hA0
  rw [Try.params6] at hA hval
  obtain ⟨v0, vs0, d0, ds0, p0, q0, hargs, rfl, rfl, h0, r0⟩ := trodAll_cons hA
  obtain ⟨v1, vs1, d1, ds1, p1, q1, rfl, rfl, rfl, h1, r1⟩ := trodAll_cons r0
  obtain ⟨v2, vs2, d2, ds2, p2, q2, rfl, rfl, rfl, h2, r2⟩ := trodAll_cons r1
  obtain ⟨rfl, rfl, rfl⟩ := trodAll_nil r2
  obtain rfl : args = #[v0, v1, v2] := by cases args; simp_all
  obtain ⟨rfl, rfl⟩ := trodVars_none hV
  obtain ⟨a0, rfl, rfl, rfl, w0⟩ := open_int Try.underlying31 (hval 0 31 v0 rfl rfl) h0
  obtain ⟨a1, rfl, rfl, rfl, w1⟩ := open_int Try.underlying31 (hval 1 31 v1 rfl rfl) h1
  obtain ⟨a2, rfl, rfl, rfl⟩ := open_bool Try.underlying4 (hval 2 4 v2 rfl rfl) h2
  clear hA0 hval0
  refine (walk a0 w0 a1 w1 a2 W).mono fun e W' ⟨he, bel⟩ => ?_
  subst he
  exact ⟨_, rfl, _, _, _, [], _, [], hW', trodAll_mk1 (shut_bool Try.underlying4 _), (trodAll_cons_mk (shut_int Try.underlying31 w0) (trodAll_cons_mk (shut_int Try.underlying31 w1) (trodAll_cons_mk (shut_bool Try.underlying4 a2) trodAll_mk0))), rfl, bel.frame _, fun h => by cases h⟩
theorem over : Rows.confineApartRow.holds Try.pinned (OpenSpec.ofChange Rows.confineApartSpec) :=
  OpenClaim.holds_of_wide 6 Try.f6 rfl rfl rfl rfl rfl rfl rfl ⟨rfl, rfl, rfl, rfl, rfl⟩ rfl rfl rfl rfl rfl (by kernel_rfl) Try.func6 (by kernel_rfl)
    (of_decide_eq_true (by kernel_rfl)) (by unfold Func.isWrapper; first | (rw [if_pos (by decide +kernel)]; kernel_rfl) | (rw [if_neg (by decide +kernel)]; exact ⟨rfl, rfl⟩))
    (fun os started H enc _ => lifted os started H enc)
end Go.Proofs.Ytnldihejdhceoaa.confineApart
namespace Go.Proofs.Ytnldihejdhceoaa
/-- The statement. -/
theorem confineApart_holds : Rows.ConfineApartSaid := confineApart.over
#print axioms confineApart_holds
end Go.Proofs.Ytnldihejdhceoaa
