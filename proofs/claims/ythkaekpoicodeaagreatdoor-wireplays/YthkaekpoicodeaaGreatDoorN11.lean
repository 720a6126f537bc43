/- The document's own node on the wire: sending, over its text: a right bit. -/
import Derived.Test.YthkaekpoicodeaaGreatDoorN10
namespace Go.Proofs.YthkaekpoicodeaaGreatDoor
open Go.RowKit
set_option linter.unusedVariables false
set_option maxRecDepth 100000 in
set_option maxHeartbeats 2000000 in
theorem rsend2_any (w : World) (p : Nat) (ph lf : Int) (fi hh : Bool) (f : Cm.Fr) (q : Nat) (tk : Bool) (s g : Int) (k ar : Nat) (c : Bool) (hk : k < (Mm.outB f).length) (hL : 44 ≤ (Mm.outB f).length) (hL2 : (Mm.outB f).length ≤ 200) (har : ar ≤ 200)
    (hn : ¬ ((Mm.outB f).getD k true = true ∧ c = false ∧ k + 1 ≤ ar)) (hE : (k + 1 = (Mm.outB f).length - 8 ∧ c = false) ∨ (k + 1 ≠ (Mm.outB f).length - 8 ∧ (Mm.outB f).getD k true = c)) (hk1 : k + 1 ≠ (Mm.outB f).length)
    (bs : List Bool) (hpq : p ≠ q) (hr : RdAt w q bs) (hbl : bs.length < 1000) (hco : Mm.code bs c = 0)
    (h : MRow w p (mcs ph lf fi true hh f.1 f.2.1 f.2.2.1 ⟨f.2.2.2.toArray⟩ ⟨(Bm.row (Mm.outB f)).toArray⟩ k ar q tk s g)) :
    Calls Tryz.prog 46 #[bptr p, .bool c] w fun e w' => e = .returned (.slice none 0 0) ∧ Kept (fun j => j = p ∨ j = q) w w' ∧ RdAt w' q (bs ++ [c]) ∧
      MRow w' p (mcs ph lf fi true hh f.1 f.2.1 f.2.2.1 ⟨f.2.2.2.toArray⟩ ⟨(Bm.row (Mm.outB f)).toArray⟩ ((k : Int) + 1) ar q tk s g) := by
  have HM : Hid (MRow w p (mcs ph lf fi true hh f.1 f.2.1 f.2.2.1 ⟨f.2.2.2.toArray⟩ ⟨(Bm.row (Mm.outB f)).toArray⟩ k ar q tk s g)) := h
  have hlt := h.lt
  have HIx : ∀ W, (Instr.index 9 (.string ⟨(Bm.row (Mm.outB f)).toArray⟩) (.int .i64 (k : Int))).run Tryz.prog W = .ok (.int .u8 (if (Mm.outB f).getD k true then 49 else 48)) W := fun W => by
    rw [idx_row (Mm.outB f) k hk W]
    cases (Mm.outB f).getD k true <;> rfl
  have hz : (ByteArray.mk (Bm.row (Mm.outB f)).toArray).size = (Mm.outB f).length := by show (Bm.row (Mm.outB f)).toArray.size = _; simp [Bm.row]
  have c9 : w.cell? ⟨p, 9, none⟩ = some (.string ⟨(Bm.row (Mm.outB f)).toArray⟩) := h.c 9 _ rfl
  have c10 : w.cell? ⟨p, 10, none⟩ = some (.int .i64 (k : Int)) := h.c 10 _ rfl
  have HC : Hid (∀ w', Below w.heap.size w w' → w'.cell? ⟨p, 9, none⟩ = some (.string ⟨(Bm.row (Mm.outB f)).toArray⟩) ∧ w'.cell? ⟨p, 10, none⟩ = some (.int .i64 (k : Int))) := fun w' hb => ⟨(hb.cell (p := ⟨p, 9, none⟩) h.lt).trans c9, (hb.cell (p := ⟨p, 10, none⟩) h.lt).trans c10⟩
  have HN : Hid (∀ w1, RdAt w1 q bs → Calls Tryz.prog 67 #[bptr q, .int .u8 ((Bm.sign c).toNat : Int)] w1 fun e w' => e = .returned (.int .i64 0) ∧ RdAt w' q (bs ++ [c]) ∧ But q w1 w') := fun w1 h1 => next_good w1 q bs c hbl hco h1
  have HR : Hid (RdAt w q bs) := hr
  have hqp : ¬ q = p := fun e => hpq e.symm
  clear hr hbl hco
  clear h c9 c10
  generalize ByteArray.mk (Bm.row (Mm.outB f)).toArray = T at *
  generalize (Mm.outB f).getD k true = D at *
  generalize (Mm.outB f).length = L at *
  cases D <;> cases c
  · by_cases hA : k + 1 = L - 8
    · skip
      replace HIx : ∀ W, (Instr.index 9 (.string T) (.int .i64 (k : Int))).run Tryz.prog W = .ok (.int .u8 48) W := HIx
      have hAp : ((k : Int) + 1 = (L : Int) - 8) := by omega
      have hA' : ((k : Int) + 1 == (L : Int) - 8) = true := beq_iff_eq.2 hAp
      clear hn hE hA hAp
      go_enter Tryz.func46, Tryz.ntmps46
      go_wp2_with fail
      refine Lw.wp_region_quiet_below (by kernel_rfl) (by kernel_rfl) ?_
      repeat (first
        | go_big_quiet_skip
        | (go_big_quiet_want; go_big_quiet_op; go_big_quiet_on)
        | (go_big_quiet_want; go_big_quiet_op; apply Exists.intro; refine ⟨fun _ hb' => ?_, ?_⟩; (first
          | exact Lw.val_rfl _
          | (simp [go_sem, (HC.out _ hb').1]; rfl)
          | (simp [go_sem, (HC.out _ hb').2]; rfl)
          | (simp [go_sem, HIx]; rfl)); go_big_quiet_on))
      refine wpQuiet_nil ?_
      intro w2 hb2
      have hm := HM.out.on hb2
      have HM2 : Hid (MRow w2 p _) := hm
      have HB2 : Hid (But p w w2) := But.of_below hb2
      have ca10 : w2.cell? ⟨p, 10, none⟩ = some (.int .i64 k) := hm.c 10 _ rfl
      have fa10 : w2.frozen? ⟨p, 10, none⟩ = false := hm.f 10
      clear hm hb2 HC HIx
      go_wp2_with fail
      have HM3 : Hid (MRow (w2.setCell ⟨p, 10, none⟩ (.int .i64 ((k : Int) + 1))) p (mcs ph lf fi true hh f.1 f.2.1 f.2.2.1 ⟨f.2.2.2.toArray⟩ T ((k : Int) + 1) ar q tk s g)) := HM2.out.set 10 _
      have HB3 : Hid (But p w (w2.setCell ⟨p, 10, none⟩ (.int .i64 ((k : Int) + 1)))) := HB2.out.set1
      clear HM2 HB2 ca10 fa10
      generalize w2.setCell ⟨p, 10, none⟩ (.int .i64 ((k : Int) + 1)) = w3 at HM3 HB3 ⊢
      have HC3 : Hid (∀ w', Below w3.heap.size w3 w' → w'.cell? ⟨p, 10, none⟩ = some (.int .i64 ((k : Int) + 1)) ∧ w'.cell? ⟨p, 11, none⟩ = some (.int .i64 (ar : Int))) := fun w' hb => ⟨(HM3.out.on hb).c 10 _ rfl, (HM3.out.on hb).c 11 _ rfl⟩
      refine Lw.wp_region_quiet_below (by kernel_rfl) (by kernel_rfl) ?_
      repeat (first
        | go_big_quiet_skip
        | (go_big_quiet_want; go_big_quiet_op; go_big_quiet_on)
        | (go_big_quiet_want; go_big_quiet_op; apply Exists.intro; refine ⟨fun _ hb' => ?_, ?_⟩; (first
          | exact Lw.val_rfl _
          | (simp [go_sem, (HC3.out _ hb').1]; rfl)
          | (simp [go_sem, (HC3.out _ hb').2]; rfl)); go_big_quiet_on))
      refine wpQuiet_nil ?_
      intro w4 hb4
      have HM4 : Hid (MRow w4 p _) := HM3.out.on hb4
      have HB4 : Hid (But p w w4) := HB3.out.join hb4
      clear hb4 HM3 HB3 HC3
      go_wp2_with fail
      have HC4 : Hid (∀ w', Below w4.heap.size w4 w' → w'.cell? ⟨p, 10, none⟩ = some (.int .i64 ((k : Int) + 1)) ∧ w'.cell? ⟨p, 9, none⟩ = some (.string T)) := fun w' hb => ⟨(HM4.out.on hb).c 10 _ rfl, (HM4.out.on hb).c 9 _ rfl⟩
      refine Lw.wp_region_quiet_below (by kernel_rfl) (by kernel_rfl) ?_
      repeat (first
        | go_big_quiet_skip
        | (go_big_quiet_want; go_big_quiet_op; go_big_quiet_on)
        | (go_big_quiet_want; go_big_quiet_op; apply Exists.intro; refine ⟨fun _ hb' => ?_, ?_⟩; (first
          | exact Lw.val_rfl _
          | (simp [go_sem, (HC4.out _ hb').1]; rfl)
          | (simp [go_sem, (HC4.out _ hb').2]; rfl)); go_big_quiet_on))
      refine wpQuiet_nil ?_
      intro w5 hb5
      have hm := HM4.out.on hb5
      have HM5 : Hid (MRow w5 p _) := hm
      have HB5 : Hid (But p w w5) := HB4.out.join hb5
      have cb12 : w5.cell? ⟨p, 12, none⟩ = some (.pointer (some ⟨q, 0, none⟩)) := hm.c 12 _ rfl
      have fb12 : w5.frozen? ⟨p, 12, none⟩ = false := hm.f 12
      have HR5 : Hid (RdAt w5 q bs) := HR.out.on (HB5.out.2.2.2.2 q HR.out.lt hqp)
      clear hm hb5 HM4 HB4 HC4
      go_wp2_with fail
      go_cut [5] from 94 (fun v wx => v = .bool false ∧ Hid (RdAt wx q (bs ++ [false])) ∧ Hid (MRow wx p (mcs ph lf fi true hh f.1 f.2.1 f.2.2.1 ⟨f.2.2.2.toArray⟩ T ((k : Int) + 1) ar q tk s g)) ∧ Hid (But q w5 wx))
      case first =>
        go_region_with (first | (go_at_call 73; refine (refBit_any _ _).mono ?_; rintro e w' ⟨rfl, rfl⟩) | (go_at_call 67; refine (HN.out _ (by exact HR5.out)).mono ?_; rintro e w6 ⟨rfl, hrd2, hb2⟩; have HR2 : Hid (RdAt w6 q (bs ++ [false])) := hrd2; have HM2 : Hid (MRow w6 p (mcs ph lf fi true hh f.1 f.2.1 f.2.2.1 ⟨f.2.2.2.toArray⟩ T ((k : Int) + 1) ar q tk s g)) := HM5.out.drewN hb2 hpq; have HB2 : Hid (But q w5 w6) := (drew_but rfl).trans hb2; clear hb2 hrd2))
        all_goals
          go_wp2_with fail
          go_meet
          case rel => exact ⟨rfl, HR2, HM2, HB2⟩
      case rest =>
        obtain ⟨rfl, HRc, HMc, HBc⟩ := hcut
        clear HM5 HR5 HN HR HM cb12 fb12
        have hk2 : ((k : Int) + 1 == (L : Int)) = false := beq_eq_false_iff_ne.2 (by omega)
        go_wp2_with fail
        have HC6 : Hid (∀ w', Below wc.heap.size wc w' → w'.cell? ⟨p, 10, none⟩ = some (.int .i64 ((k : Int) + 1)) ∧ w'.cell? ⟨p, 9, none⟩ = some (.string T)) := fun w' hb => ⟨(HMc.out.on hb).c 10 _ rfl, (HMc.out.on hb).c 9 _ rfl⟩
        refine Lw.wp_region_quiet_below (by kernel_rfl) (by kernel_rfl) ?_
        repeat (first
          | go_big_quiet_skip
          | (go_big_quiet_want; go_big_quiet_op; go_big_quiet_on)
          | (go_big_quiet_want; go_big_quiet_op; apply Exists.intro; refine ⟨fun _ hb' => ?_, ?_⟩; (first
            | exact Lw.val_rfl _
            | (simp [go_sem, (HC6.out _ hb').1]; rfl)
            | (simp [go_sem, (HC6.out _ hb').2]; rfl)); go_big_quiet_on))
        refine wpQuiet_nil ?_
        intro w7 hb7
        have HE : Hid (Kept (fun j => j = p ∨ j = q) w w7 ∧ RdAt w7 q (bs ++ [false]) ∧ MRow w7 p (mcs ph lf fi true hh f.1 f.2.1 f.2.2.1 ⟨f.2.2.2.toArray⟩ T ((k : Int) + 1) ar q tk s g)) :=
          ⟨(kept2 HB5.out (HBc.out.join hb7)).mono (fun g e => e.symm), HRc.out.on (hb7.block q HRc.out.lt), HMc.out.on hb7⟩
        clear HC6 HMc HBc HRc hb7 HB5
        go_wp2
        go_ret
        exact ⟨rfl, HE.out⟩
    · skip
      replace HIx : ∀ W, (Instr.index 9 (.string T) (.int .i64 (k : Int))).run Tryz.prog W = .ok (.int .u8 48) W := HIx
      have hAp : ¬ ((k : Int) + 1 = (L : Int) - 8) := by omega
      have hA' : ((k : Int) + 1 == (L : Int) - 8) = false := beq_eq_false_iff_ne.2 hAp
      clear hn hE hA
      go_enter Tryz.func46, Tryz.ntmps46
      go_wp2_with fail
      refine Lw.wp_region_quiet_below (by kernel_rfl) (by kernel_rfl) ?_
      repeat (first
        | go_big_quiet_skip
        | (go_big_quiet_want; go_big_quiet_op; go_big_quiet_on)
        | (go_big_quiet_want; go_big_quiet_op; apply Exists.intro; refine ⟨fun _ hb' => ?_, ?_⟩; (first
          | exact Lw.val_rfl _
          | (simp [go_sem, (HC.out _ hb').1]; rfl)
          | (simp [go_sem, (HC.out _ hb').2]; rfl)
          | (simp [go_sem, HIx]; rfl)); go_big_quiet_on))
      refine wpQuiet_nil ?_
      intro w2 hb2
      have hm := HM.out.on hb2
      have HM2 : Hid (MRow w2 p _) := hm
      have HB2 : Hid (But p w w2) := But.of_below hb2
      have ca10 : w2.cell? ⟨p, 10, none⟩ = some (.int .i64 k) := hm.c 10 _ rfl
      have fa10 : w2.frozen? ⟨p, 10, none⟩ = false := hm.f 10
      clear hm hb2 HC HIx
      go_wp2_with fail
      have HM3 : Hid (MRow (w2.setCell ⟨p, 10, none⟩ (.int .i64 ((k : Int) + 1))) p (mcs ph lf fi true hh f.1 f.2.1 f.2.2.1 ⟨f.2.2.2.toArray⟩ T ((k : Int) + 1) ar q tk s g)) := HM2.out.set 10 _
      have HB3 : Hid (But p w (w2.setCell ⟨p, 10, none⟩ (.int .i64 ((k : Int) + 1)))) := HB2.out.set1
      clear HM2 HB2 ca10 fa10
      generalize w2.setCell ⟨p, 10, none⟩ (.int .i64 ((k : Int) + 1)) = w3 at HM3 HB3 ⊢
      have HC3 : Hid (∀ w', Below w3.heap.size w3 w' → w'.cell? ⟨p, 10, none⟩ = some (.int .i64 ((k : Int) + 1)) ∧ w'.cell? ⟨p, 11, none⟩ = some (.int .i64 (ar : Int))) := fun w' hb => ⟨(HM3.out.on hb).c 10 _ rfl, (HM3.out.on hb).c 11 _ rfl⟩
      refine Lw.wp_region_quiet_below (by kernel_rfl) (by kernel_rfl) ?_
      repeat (first
        | go_big_quiet_skip
        | (go_big_quiet_want; go_big_quiet_op; go_big_quiet_on)
        | (go_big_quiet_want; go_big_quiet_op; apply Exists.intro; refine ⟨fun _ hb' => ?_, ?_⟩; (first
          | exact Lw.val_rfl _
          | (simp [go_sem, (HC3.out _ hb').1]; rfl)
          | (simp [go_sem, (HC3.out _ hb').2]; rfl)); go_big_quiet_on))
      refine wpQuiet_nil ?_
      intro w4 hb4
      have HM4 : Hid (MRow w4 p _) := HM3.out.on hb4
      have HB4 : Hid (But p w w4) := HB3.out.join hb4
      clear hb4 HM3 HB3 HC3
      go_wp2_with fail
      have HC4 : Hid (∀ w', Below w4.heap.size w4 w' → w'.cell? ⟨p, 10, none⟩ = some (.int .i64 ((k : Int) + 1)) ∧ w'.cell? ⟨p, 9, none⟩ = some (.string T)) := fun w' hb => ⟨(HM4.out.on hb).c 10 _ rfl, (HM4.out.on hb).c 9 _ rfl⟩
      refine Lw.wp_region_quiet_below (by kernel_rfl) (by kernel_rfl) ?_
      repeat (first
        | go_big_quiet_skip
        | (go_big_quiet_want; go_big_quiet_op; go_big_quiet_on)
        | (go_big_quiet_want; go_big_quiet_op; apply Exists.intro; refine ⟨fun _ hb' => ?_, ?_⟩; (first
          | exact Lw.val_rfl _
          | (simp [go_sem, (HC4.out _ hb').1]; rfl)
          | (simp [go_sem, (HC4.out _ hb').2]; rfl)); go_big_quiet_on))
      refine wpQuiet_nil ?_
      intro w5 hb5
      have hm := HM4.out.on hb5
      have HM5 : Hid (MRow w5 p _) := hm
      have HB5 : Hid (But p w w5) := HB4.out.join hb5
      have cb12 : w5.cell? ⟨p, 12, none⟩ = some (.pointer (some ⟨q, 0, none⟩)) := hm.c 12 _ rfl
      have fb12 : w5.frozen? ⟨p, 12, none⟩ = false := hm.f 12
      have HR5 : Hid (RdAt w5 q bs) := HR.out.on (HB5.out.2.2.2.2 q HR.out.lt hqp)
      clear hm hb5 HM4 HB4 HC4
      go_wp2_with fail
      go_cut [5] from 94 (fun v wx => v = .bool false ∧ Hid (RdAt wx q (bs ++ [false])) ∧ Hid (MRow wx p (mcs ph lf fi true hh f.1 f.2.1 f.2.2.1 ⟨f.2.2.2.toArray⟩ T ((k : Int) + 1) ar q tk s g)) ∧ Hid (But q w5 wx))
      case first =>
        go_region_with (first | (go_at_call 73; refine (refBit_any _ _).mono ?_; rintro e w' ⟨rfl, rfl⟩) | (go_at_call 67; refine (HN.out _ (by exact HR5.out)).mono ?_; rintro e w6 ⟨rfl, hrd2, hb2⟩; have HR2 : Hid (RdAt w6 q (bs ++ [false])) := hrd2; have HM2 : Hid (MRow w6 p (mcs ph lf fi true hh f.1 f.2.1 f.2.2.1 ⟨f.2.2.2.toArray⟩ T ((k : Int) + 1) ar q tk s g)) := HM5.out.drewN hb2 hpq; have HB2 : Hid (But q w5 w6) := (drew_but rfl).trans hb2; clear hb2 hrd2))
        all_goals
          go_wp2_with fail
          go_meet
          case rel => exact ⟨rfl, HR2, HM2, HB2⟩
      case rest =>
        obtain ⟨rfl, HRc, HMc, HBc⟩ := hcut
        clear HM5 HR5 HN HR HM cb12 fb12
        have hk2 : ((k : Int) + 1 == (L : Int)) = false := beq_eq_false_iff_ne.2 (by omega)
        go_wp2_with fail
        have HC6 : Hid (∀ w', Below wc.heap.size wc w' → w'.cell? ⟨p, 10, none⟩ = some (.int .i64 ((k : Int) + 1)) ∧ w'.cell? ⟨p, 9, none⟩ = some (.string T)) := fun w' hb => ⟨(HMc.out.on hb).c 10 _ rfl, (HMc.out.on hb).c 9 _ rfl⟩
        refine Lw.wp_region_quiet_below (by kernel_rfl) (by kernel_rfl) ?_
        repeat (first
          | go_big_quiet_skip
          | (go_big_quiet_want; go_big_quiet_op; go_big_quiet_on)
          | (go_big_quiet_want; go_big_quiet_op; apply Exists.intro; refine ⟨fun _ hb' => ?_, ?_⟩; (first
            | exact Lw.val_rfl _
            | (simp [go_sem, (HC6.out _ hb').1]; rfl)
            | (simp [go_sem, (HC6.out _ hb').2]; rfl)); go_big_quiet_on))
        refine wpQuiet_nil ?_
        intro w7 hb7
        have HE : Hid (Kept (fun j => j = p ∨ j = q) w w7 ∧ RdAt w7 q (bs ++ [false]) ∧ MRow w7 p (mcs ph lf fi true hh f.1 f.2.1 f.2.2.1 ⟨f.2.2.2.toArray⟩ T ((k : Int) + 1) ar q tk s g)) :=
          ⟨(kept2 HB5.out (HBc.out.join hb7)).mono (fun g e => e.symm), HRc.out.on (hb7.block q HRc.out.lt), HMc.out.on hb7⟩
        clear HC6 HMc HBc HRc hb7 HB5
        go_wp2
        go_ret
        exact ⟨rfl, HE.out⟩
  · rcases hE with ⟨_, e⟩ | ⟨_, e⟩ <;> cases e
  · rcases hE with ⟨hA, _⟩ | ⟨_, e⟩
    · skip
      replace HIx : ∀ W, (Instr.index 9 (.string T) (.int .i64 (k : Int))).run Tryz.prog W = .ok (.int .u8 49) W := HIx
      have hAp : ((k : Int) + 1 = (L : Int) - 8) := by omega
      have hA' : ((k : Int) + 1 == (L : Int) - 8) = true := beq_iff_eq.2 hAp
      have hn2 : ¬ (k + 1 ≤ ar) := fun h => hn ⟨rfl, rfl, h⟩
      have hle : decide (((k : Int) + 1) ≤ (ar : Int)) = false := decide_eq_false (by omega)
      clear hn hA hAp
      go_enter Tryz.func46, Tryz.ntmps46
      go_wp2_with fail
      refine Lw.wp_region_quiet_below (by kernel_rfl) (by kernel_rfl) ?_
      repeat (first
        | go_big_quiet_skip
        | (go_big_quiet_want; go_big_quiet_op; go_big_quiet_on)
        | (go_big_quiet_want; go_big_quiet_op; apply Exists.intro; refine ⟨fun _ hb' => ?_, ?_⟩; (first
          | exact Lw.val_rfl _
          | (simp [go_sem, (HC.out _ hb').1]; rfl)
          | (simp [go_sem, (HC.out _ hb').2]; rfl)
          | (simp [go_sem, HIx]; rfl)); go_big_quiet_on))
      refine wpQuiet_nil ?_
      intro w2 hb2
      have hm := HM.out.on hb2
      have HM2 : Hid (MRow w2 p _) := hm
      have HB2 : Hid (But p w w2) := But.of_below hb2
      have ca10 : w2.cell? ⟨p, 10, none⟩ = some (.int .i64 k) := hm.c 10 _ rfl
      have fa10 : w2.frozen? ⟨p, 10, none⟩ = false := hm.f 10
      clear hm hb2 HC HIx
      go_wp2_with fail
      have HM3 : Hid (MRow (w2.setCell ⟨p, 10, none⟩ (.int .i64 ((k : Int) + 1))) p (mcs ph lf fi true hh f.1 f.2.1 f.2.2.1 ⟨f.2.2.2.toArray⟩ T ((k : Int) + 1) ar q tk s g)) := HM2.out.set 10 _
      have HB3 : Hid (But p w (w2.setCell ⟨p, 10, none⟩ (.int .i64 ((k : Int) + 1)))) := HB2.out.set1
      clear HM2 HB2 ca10 fa10
      generalize w2.setCell ⟨p, 10, none⟩ (.int .i64 ((k : Int) + 1)) = w3 at HM3 HB3 ⊢
      have HC3 : Hid (∀ w', Below w3.heap.size w3 w' → w'.cell? ⟨p, 10, none⟩ = some (.int .i64 ((k : Int) + 1)) ∧ w'.cell? ⟨p, 11, none⟩ = some (.int .i64 (ar : Int))) := fun w' hb => ⟨(HM3.out.on hb).c 10 _ rfl, (HM3.out.on hb).c 11 _ rfl⟩
      refine Lw.wp_region_quiet_below (by kernel_rfl) (by kernel_rfl) ?_
      repeat (first
        | go_big_quiet_skip
        | (go_big_quiet_want; go_big_quiet_op; go_big_quiet_on)
        | (go_big_quiet_want; go_big_quiet_op; apply Exists.intro; refine ⟨fun _ hb' => ?_, ?_⟩; (first
          | exact Lw.val_rfl _
          | (simp [go_sem, (HC3.out _ hb').1]; rfl)
          | (simp [go_sem, (HC3.out _ hb').2]; rfl)); go_big_quiet_on))
      refine wpQuiet_nil ?_
      intro w4 hb4
      have HM4 : Hid (MRow w4 p _) := HM3.out.on hb4
      have HB4 : Hid (But p w w4) := HB3.out.join hb4
      clear hb4 HM3 HB3 HC3
      go_wp2_with fail
      have HC4 : Hid (∀ w', Below w4.heap.size w4 w' → w'.cell? ⟨p, 10, none⟩ = some (.int .i64 ((k : Int) + 1)) ∧ w'.cell? ⟨p, 9, none⟩ = some (.string T)) := fun w' hb => ⟨(HM4.out.on hb).c 10 _ rfl, (HM4.out.on hb).c 9 _ rfl⟩
      refine Lw.wp_region_quiet_below (by kernel_rfl) (by kernel_rfl) ?_
      repeat (first
        | go_big_quiet_skip
        | (go_big_quiet_want; go_big_quiet_op; go_big_quiet_on)
        | (go_big_quiet_want; go_big_quiet_op; apply Exists.intro; refine ⟨fun _ hb' => ?_, ?_⟩; (first
          | exact Lw.val_rfl _
          | (simp [go_sem, (HC4.out _ hb').1]; rfl)
          | (simp [go_sem, (HC4.out _ hb').2]; rfl)); go_big_quiet_on))
      refine wpQuiet_nil ?_
      intro w5 hb5
      have hm := HM4.out.on hb5
      have HM5 : Hid (MRow w5 p _) := hm
      have HB5 : Hid (But p w w5) := HB4.out.join hb5
      have cb12 : w5.cell? ⟨p, 12, none⟩ = some (.pointer (some ⟨q, 0, none⟩)) := hm.c 12 _ rfl
      have fb12 : w5.frozen? ⟨p, 12, none⟩ = false := hm.f 12
      have HR5 : Hid (RdAt w5 q bs) := HR.out.on (HB5.out.2.2.2.2 q HR.out.lt hqp)
      clear hm hb5 HM4 HB4 HC4
      go_wp2_with fail
      go_cut [5] from 94 (fun v wx => v = .bool true ∧ Hid (RdAt wx q (bs ++ [false])) ∧ Hid (MRow wx p (mcs ph lf fi true hh f.1 f.2.1 f.2.2.1 ⟨f.2.2.2.toArray⟩ T ((k : Int) + 1) ar q tk s g)) ∧ Hid (But q w5 wx))
      case first =>
        go_region_with (first | (go_at_call 73; refine (refBit_any _ _).mono ?_; rintro e w' ⟨rfl, rfl⟩) | (go_at_call 67; refine (HN.out _ (by exact HR5.out)).mono ?_; rintro e w6 ⟨rfl, hrd2, hb2⟩; have HR2 : Hid (RdAt w6 q (bs ++ [false])) := hrd2; have HM2 : Hid (MRow w6 p (mcs ph lf fi true hh f.1 f.2.1 f.2.2.1 ⟨f.2.2.2.toArray⟩ T ((k : Int) + 1) ar q tk s g)) := HM5.out.drewN hb2 hpq; have HB2 : Hid (But q w5 w6) := (drew_but rfl).trans hb2; clear hb2 hrd2))
        all_goals
          go_wp2_with fail
          go_meet
          case rel => exact ⟨rfl, HR2, HM2, HB2⟩
      case rest =>
        obtain ⟨rfl, HRc, HMc, HBc⟩ := hcut
        clear HM5 HR5 HN HR HM cb12 fb12
        have hk2 : ((k : Int) + 1 == (L : Int)) = false := beq_eq_false_iff_ne.2 (by omega)
        go_wp2_with fail
        have HC6 : Hid (∀ w', Below wc.heap.size wc w' → w'.cell? ⟨p, 10, none⟩ = some (.int .i64 ((k : Int) + 1)) ∧ w'.cell? ⟨p, 9, none⟩ = some (.string T)) := fun w' hb => ⟨(HMc.out.on hb).c 10 _ rfl, (HMc.out.on hb).c 9 _ rfl⟩
        refine Lw.wp_region_quiet_below (by kernel_rfl) (by kernel_rfl) ?_
        repeat (first
          | go_big_quiet_skip
          | (go_big_quiet_want; go_big_quiet_op; go_big_quiet_on)
          | (go_big_quiet_want; go_big_quiet_op; apply Exists.intro; refine ⟨fun _ hb' => ?_, ?_⟩; (first
            | exact Lw.val_rfl _
            | (simp [go_sem, (HC6.out _ hb').1]; rfl)
            | (simp [go_sem, (HC6.out _ hb').2]; rfl)); go_big_quiet_on))
        refine wpQuiet_nil ?_
        intro w7 hb7
        have HE : Hid (Kept (fun j => j = p ∨ j = q) w w7 ∧ RdAt w7 q (bs ++ [false]) ∧ MRow w7 p (mcs ph lf fi true hh f.1 f.2.1 f.2.2.1 ⟨f.2.2.2.toArray⟩ T ((k : Int) + 1) ar q tk s g)) :=
          ⟨(kept2 HB5.out (HBc.out.join hb7)).mono (fun g e => e.symm), HRc.out.on (hb7.block q HRc.out.lt), HMc.out.on hb7⟩
        clear HC6 HMc HBc HRc hb7 HB5
        go_wp2
        go_ret
        exact ⟨rfl, HE.out⟩
    · cases e
  · rcases hE with ⟨_, e⟩ | ⟨hA, _⟩
    · cases e
    · skip
      replace HIx : ∀ W, (Instr.index 9 (.string T) (.int .i64 (k : Int))).run Tryz.prog W = .ok (.int .u8 49) W := HIx
      have hAp : ¬ ((k : Int) + 1 = (L : Int) - 8) := by omega
      have hA' : ((k : Int) + 1 == (L : Int) - 8) = false := beq_eq_false_iff_ne.2 hAp
      clear hn hA
      go_enter Tryz.func46, Tryz.ntmps46
      go_wp2_with fail
      refine Lw.wp_region_quiet_below (by kernel_rfl) (by kernel_rfl) ?_
      repeat (first
        | go_big_quiet_skip
        | (go_big_quiet_want; go_big_quiet_op; go_big_quiet_on)
        | (go_big_quiet_want; go_big_quiet_op; apply Exists.intro; refine ⟨fun _ hb' => ?_, ?_⟩; (first
          | exact Lw.val_rfl _
          | (simp [go_sem, (HC.out _ hb').1]; rfl)
          | (simp [go_sem, (HC.out _ hb').2]; rfl)
          | (simp [go_sem, HIx]; rfl)); go_big_quiet_on))
      refine wpQuiet_nil ?_
      intro w2 hb2
      have hm := HM.out.on hb2
      have HM2 : Hid (MRow w2 p _) := hm
      have HB2 : Hid (But p w w2) := But.of_below hb2
      have ca10 : w2.cell? ⟨p, 10, none⟩ = some (.int .i64 k) := hm.c 10 _ rfl
      have fa10 : w2.frozen? ⟨p, 10, none⟩ = false := hm.f 10
      clear hm hb2 HC HIx
      go_wp2_with fail
      have HM3 : Hid (MRow (w2.setCell ⟨p, 10, none⟩ (.int .i64 ((k : Int) + 1))) p (mcs ph lf fi true hh f.1 f.2.1 f.2.2.1 ⟨f.2.2.2.toArray⟩ T ((k : Int) + 1) ar q tk s g)) := HM2.out.set 10 _
      have HB3 : Hid (But p w (w2.setCell ⟨p, 10, none⟩ (.int .i64 ((k : Int) + 1)))) := HB2.out.set1
      clear HM2 HB2 ca10 fa10
      generalize w2.setCell ⟨p, 10, none⟩ (.int .i64 ((k : Int) + 1)) = w3 at HM3 HB3 ⊢
      have HC3 : Hid (∀ w', Below w3.heap.size w3 w' → w'.cell? ⟨p, 10, none⟩ = some (.int .i64 ((k : Int) + 1)) ∧ w'.cell? ⟨p, 11, none⟩ = some (.int .i64 (ar : Int))) := fun w' hb => ⟨(HM3.out.on hb).c 10 _ rfl, (HM3.out.on hb).c 11 _ rfl⟩
      refine Lw.wp_region_quiet_below (by kernel_rfl) (by kernel_rfl) ?_
      repeat (first
        | go_big_quiet_skip
        | (go_big_quiet_want; go_big_quiet_op; go_big_quiet_on)
        | (go_big_quiet_want; go_big_quiet_op; apply Exists.intro; refine ⟨fun _ hb' => ?_, ?_⟩; (first
          | exact Lw.val_rfl _
          | (simp [go_sem, (HC3.out _ hb').1]; rfl)
          | (simp [go_sem, (HC3.out _ hb').2]; rfl)); go_big_quiet_on))
      refine wpQuiet_nil ?_
      intro w4 hb4
      have HM4 : Hid (MRow w4 p _) := HM3.out.on hb4
      have HB4 : Hid (But p w w4) := HB3.out.join hb4
      clear hb4 HM3 HB3 HC3
      go_wp2_with fail
      have HC4 : Hid (∀ w', Below w4.heap.size w4 w' → w'.cell? ⟨p, 10, none⟩ = some (.int .i64 ((k : Int) + 1)) ∧ w'.cell? ⟨p, 9, none⟩ = some (.string T)) := fun w' hb => ⟨(HM4.out.on hb).c 10 _ rfl, (HM4.out.on hb).c 9 _ rfl⟩
      refine Lw.wp_region_quiet_below (by kernel_rfl) (by kernel_rfl) ?_
      repeat (first
        | go_big_quiet_skip
        | (go_big_quiet_want; go_big_quiet_op; go_big_quiet_on)
        | (go_big_quiet_want; go_big_quiet_op; apply Exists.intro; refine ⟨fun _ hb' => ?_, ?_⟩; (first
          | exact Lw.val_rfl _
          | (simp [go_sem, (HC4.out _ hb').1]; rfl)
          | (simp [go_sem, (HC4.out _ hb').2]; rfl)); go_big_quiet_on))
      refine wpQuiet_nil ?_
      intro w5 hb5
      have hm := HM4.out.on hb5
      have HM5 : Hid (MRow w5 p _) := hm
      have HB5 : Hid (But p w w5) := HB4.out.join hb5
      have cb12 : w5.cell? ⟨p, 12, none⟩ = some (.pointer (some ⟨q, 0, none⟩)) := hm.c 12 _ rfl
      have fb12 : w5.frozen? ⟨p, 12, none⟩ = false := hm.f 12
      have HR5 : Hid (RdAt w5 q bs) := HR.out.on (HB5.out.2.2.2.2 q HR.out.lt hqp)
      clear hm hb5 HM4 HB4 HC4
      go_wp2_with fail
      go_cut [5] from 94 (fun v wx => v = .bool true ∧ Hid (RdAt wx q (bs ++ [true])) ∧ Hid (MRow wx p (mcs ph lf fi true hh f.1 f.2.1 f.2.2.1 ⟨f.2.2.2.toArray⟩ T ((k : Int) + 1) ar q tk s g)) ∧ Hid (But q w5 wx))
      case first =>
        go_region_with (first | (go_at_call 73; refine (refBit_any _ _).mono ?_; rintro e w' ⟨rfl, rfl⟩) | (go_at_call 67; refine (HN.out _ (by exact HR5.out)).mono ?_; rintro e w6 ⟨rfl, hrd2, hb2⟩; have HR2 : Hid (RdAt w6 q (bs ++ [true])) := hrd2; have HM2 : Hid (MRow w6 p (mcs ph lf fi true hh f.1 f.2.1 f.2.2.1 ⟨f.2.2.2.toArray⟩ T ((k : Int) + 1) ar q tk s g)) := HM5.out.drewN hb2 hpq; have HB2 : Hid (But q w5 w6) := (drew_but rfl).trans hb2; clear hb2 hrd2))
        all_goals
          go_wp2_with fail
          go_meet
          case rel => exact ⟨rfl, HR2, HM2, HB2⟩
      case rest =>
        obtain ⟨rfl, HRc, HMc, HBc⟩ := hcut
        clear HM5 HR5 HN HR HM cb12 fb12
        have hk2 : ((k : Int) + 1 == (L : Int)) = false := beq_eq_false_iff_ne.2 (by omega)
        go_wp2_with fail
        have HC6 : Hid (∀ w', Below wc.heap.size wc w' → w'.cell? ⟨p, 10, none⟩ = some (.int .i64 ((k : Int) + 1)) ∧ w'.cell? ⟨p, 9, none⟩ = some (.string T)) := fun w' hb => ⟨(HMc.out.on hb).c 10 _ rfl, (HMc.out.on hb).c 9 _ rfl⟩
        refine Lw.wp_region_quiet_below (by kernel_rfl) (by kernel_rfl) ?_
        repeat (first
          | go_big_quiet_skip
          | (go_big_quiet_want; go_big_quiet_op; go_big_quiet_on)
          | (go_big_quiet_want; go_big_quiet_op; apply Exists.intro; refine ⟨fun _ hb' => ?_, ?_⟩; (first
            | exact Lw.val_rfl _
            | (simp [go_sem, (HC6.out _ hb').1]; rfl)
            | (simp [go_sem, (HC6.out _ hb').2]; rfl)); go_big_quiet_on))
        refine wpQuiet_nil ?_
        intro w7 hb7
        have HE : Hid (Kept (fun j => j = p ∨ j = q) w w7 ∧ RdAt w7 q (bs ++ [true]) ∧ MRow w7 p (mcs ph lf fi true hh f.1 f.2.1 f.2.2.1 ⟨f.2.2.2.toArray⟩ T ((k : Int) + 1) ar q tk s g)) :=
          ⟨(kept2 HB5.out (HBc.out.join hb7)).mono (fun g e => e.symm), HRc.out.on (hb7.block q HRc.out.lt), HMc.out.on hb7⟩
        clear HC6 HMc HBc HRc hb7 HB5
        go_wp2
        go_ret
        exact ⟨rfl, HE.out⟩
end Go.Proofs.YthkaekpoicodeaaGreatDoor
