/- The document's own node on the wire: sending, over its text: the last bit. -/
import Derived.Test.YthkaekpoicodeaaGreatDoorN11
namespace Go.Proofs.YthkaekpoicodeaaGreatDoor
open Go.RowKit
set_option linter.unusedVariables false
set_option maxRecDepth 100000 in
set_option maxHeartbeats 2000000 in
theorem rsend3_any (w : World) (p : Nat) (ph lf : Int) (fi hh : Bool) (f : Cm.Fr) (q : Nat) (tk : Bool) (s g : Int) (k ar : Nat) (c : Bool) (hk : k < (Mm.outB f).length) (hL : 44 ≤ (Mm.outB f).length) (hL2 : (Mm.outB f).length ≤ 200) (har : ar ≤ 200)
    (hn : ¬ ((Mm.outB f).getD k true = true ∧ c = false ∧ k + 1 ≤ ar)) (hE : (Mm.outB f).getD k true = c) (hk1 : k + 1 = (Mm.outB f).length)
    (bs : List Bool) (hpq : p ≠ q) (hr : RdAt w q bs) (hbl : bs.length < 1000)
    (h : MRow w p (mcs ph lf fi true hh f.1 f.2.1 f.2.2.1 ⟨f.2.2.2.toArray⟩ ⟨(Bm.row (Mm.outB f)).toArray⟩ k ar q tk s g)) :
    Calls Tryz.prog 46 #[bptr p, .bool c] w fun e w' => ∃ sl cap, e = .returned (.slice sl 1 cap) ∧ EvAt w.heap.size w' sl cap [⟨1, f, 0⟩] ∧ (∀ b o, sl = some ⟨b, o, none⟩ → w.heap.size ≤ b) ∧ Kept (fun j => j = p ∨ j = q) w w' ∧
      MRow w' p (mcs 4 3 fi false hh f.1 f.2.1 f.2.2.1 ⟨f.2.2.2.toArray⟩ ⟨(Bm.row (Mm.outB f)).toArray⟩ ((k : Int) + 1) ar q tk (Km.sentS s g true) g) := by
  have HM : Hid (MRow w p (mcs ph lf fi true hh f.1 f.2.1 f.2.2.1 ⟨f.2.2.2.toArray⟩ ⟨(Bm.row (Mm.outB f)).toArray⟩ k ar q tk s g)) := h
  have hlt := h.lt
  have HIx : ∀ W, (Instr.index 9 (.string ⟨(Bm.row (Mm.outB f)).toArray⟩) (.int .i64 (k : Int))).run Tryz.prog W = .ok (.int .u8 (if (Mm.outB f).getD k true then 49 else 48)) W := fun W => by
    rw [idx_row (Mm.outB f) k hk W]
    cases (Mm.outB f).getD k true <;> rfl
  have hz : (ByteArray.mk (Bm.row (Mm.outB f)).toArray).size = (Mm.outB f).length := by show (Bm.row (Mm.outB f)).toArray.size = _; simp [Bm.row]
  have c9 : w.cell? ⟨p, 9, none⟩ = some (.string ⟨(Bm.row (Mm.outB f)).toArray⟩) := h.c 9 _ rfl
  have c10 : w.cell? ⟨p, 10, none⟩ = some (.int .i64 (k : Int)) := h.c 10 _ rfl
  have HC : Hid (∀ w', Below w.heap.size w w' → w'.cell? ⟨p, 9, none⟩ = some (.string ⟨(Bm.row (Mm.outB f)).toArray⟩) ∧ w'.cell? ⟨p, 10, none⟩ = some (.int .i64 (k : Int))) := fun w' hb => ⟨(hb.cell (p := ⟨p, 9, none⟩) h.lt).trans c9, (hb.cell (p := ⟨p, 10, none⟩) h.lt).trans c10⟩
  have HN : Hid (∀ w1, RdAt w1 q bs → Calls Tryz.prog 67 #[bptr q, .int .u8 ((Bm.sign c).toNat : Int)] w1 fun e w' => e = .returned (.int .i64 (Mm.code bs c : Int)) ∧ But q w1 w') := fun w1 h1 => by
    obtain ⟨S, R, e1, e2, e3⟩ := h1
    refine (next_bit q S (by omega) (Mm.feed bs) R (Bm.sign c) w1 e2 e1).mono ?_
    rintro e w2 ⟨rfl, h2, h3⟩
    rw [Bm.isOne_sign]
    exact ⟨rfl, h3⟩
  have HSn : Hid (∀ w, Calls Tryz.prog 71 #[.agg #[.int .i64 s, .int .i64 g], .bool true] w fun e w' => e = .returned (.agg #[.int .i64 (Km.sentS s g true), .int .i64 g]) ∧ Below w.heap.size w w') := fun w => rsent_any s g true w
  have HR : Hid (RdAt w q bs) := hr
  have hqp : ¬ q = p := fun e => hpq e.symm
  clear hr hbl
  clear h c9 c10
  generalize ByteArray.mk (Bm.row (Mm.outB f)).toArray = T at *
  generalize (Mm.outB f).getD k true = D at *
  generalize (Mm.outB f).length = L at *
  generalize Mm.code bs c = CO at *
  generalize Km.sentS s g true = S at *
  have hA : ¬ (k + 1 = L - 8) := by omega
  subst hE
  cases D
  · skip
    replace HIx : ∀ W, (Instr.index 9 (.string T) (.int .i64 (k : Int))).run Tryz.prog W = .ok (.int .u8 48) W := HIx
    have hAp : ¬ ((k : Int) + 1 = (L : Int) - 8) := by omega
    have hA' : ((k : Int) + 1 == (L : Int) - 8) = false := beq_eq_false_iff_ne.2 hAp
    clear hn hA
    go_enter Tryz.func46, Tryz.ntmps46
    go_wp2_with fail
    refine Lw.wp_region_quiet_below (by kernel_rfl) (by kernel_rfl) ?_
    repeat (first
      | go_big_quiet_skip
      | (go_big_quiet_want; go_big_quiet_op; go_big_quiet_on)
      | (go_big_quiet_want; go_big_quiet_op; apply Exists.intro; refine ⟨fun _ hb' => ?_, ?_⟩; (first
        | exact Lw.val_rfl _
        | (simp [go_sem, (HC.out _ hb').1]; rfl)
        | (simp [go_sem, (HC.out _ hb').2]; rfl)
        | (simp [go_sem, HIx]; rfl)); go_big_quiet_on))
    refine wpQuiet_nil ?_
    intro w2 hb2
    have hm := HM.out.on hb2
    have HM2 : Hid (MRow w2 p _) := hm
    have HB2 : Hid (But p w w2) := But.of_below hb2
    have ca10 : w2.cell? ⟨p, 10, none⟩ = some (.int .i64 k) := hm.c 10 _ rfl
    have fa10 : w2.frozen? ⟨p, 10, none⟩ = false := hm.f 10
    clear hm hb2 HC HIx
    go_wp2_with fail
    have HM3 : Hid (MRow (w2.setCell ⟨p, 10, none⟩ (.int .i64 ((k : Int) + 1))) p (mcs ph lf fi true hh f.1 f.2.1 f.2.2.1 ⟨f.2.2.2.toArray⟩ T ((k : Int) + 1) ar q tk s g)) := HM2.out.set 10 _
    have HB3 : Hid (But p w (w2.setCell ⟨p, 10, none⟩ (.int .i64 ((k : Int) + 1)))) := HB2.out.set1
    clear HM2 HB2 ca10 fa10
    generalize w2.setCell ⟨p, 10, none⟩ (.int .i64 ((k : Int) + 1)) = w3 at HM3 HB3 ⊢
    have HC3 : Hid (∀ w', Below w3.heap.size w3 w' → w'.cell? ⟨p, 10, none⟩ = some (.int .i64 ((k : Int) + 1)) ∧ w'.cell? ⟨p, 11, none⟩ = some (.int .i64 (ar : Int))) := fun w' hb => ⟨(HM3.out.on hb).c 10 _ rfl, (HM3.out.on hb).c 11 _ rfl⟩
    refine Lw.wp_region_quiet_below (by kernel_rfl) (by kernel_rfl) ?_
    repeat (first
      | go_big_quiet_skip
      | (go_big_quiet_want; go_big_quiet_op; go_big_quiet_on)
      | (go_big_quiet_want; go_big_quiet_op; apply Exists.intro; refine ⟨fun _ hb' => ?_, ?_⟩; (first
        | exact Lw.val_rfl _
        | (simp [go_sem, (HC3.out _ hb').1]; rfl)
        | (simp [go_sem, (HC3.out _ hb').2]; rfl)); go_big_quiet_on))
    refine wpQuiet_nil ?_
    intro w4 hb4
    have HM4 : Hid (MRow w4 p _) := HM3.out.on hb4
    have HB4 : Hid (But p w w4) := HB3.out.join hb4
    clear hb4 HM3 HB3 HC3
    go_wp2_with fail
    have HC4 : Hid (∀ w', Below w4.heap.size w4 w' → w'.cell? ⟨p, 10, none⟩ = some (.int .i64 ((k : Int) + 1)) ∧ w'.cell? ⟨p, 9, none⟩ = some (.string T)) := fun w' hb => ⟨(HM4.out.on hb).c 10 _ rfl, (HM4.out.on hb).c 9 _ rfl⟩
    refine Lw.wp_region_quiet_below (by kernel_rfl) (by kernel_rfl) ?_
    repeat (first
      | go_big_quiet_skip
      | (go_big_quiet_want; go_big_quiet_op; go_big_quiet_on)
      | (go_big_quiet_want; go_big_quiet_op; apply Exists.intro; refine ⟨fun _ hb' => ?_, ?_⟩; (first
        | exact Lw.val_rfl _
        | (simp [go_sem, (HC4.out _ hb').1]; rfl)
        | (simp [go_sem, (HC4.out _ hb').2]; rfl)); go_big_quiet_on))
    refine wpQuiet_nil ?_
    intro w5 hb5
    have hm := HM4.out.on hb5
    have HM5 : Hid (MRow w5 p _) := hm
    have HB5 : Hid (But p w w5) := HB4.out.join hb5
    have cb12 : w5.cell? ⟨p, 12, none⟩ = some (.pointer (some ⟨q, 0, none⟩)) := hm.c 12 _ rfl
    have fb12 : w5.frozen? ⟨p, 12, none⟩ = false := hm.f 12
    have HR5 : Hid (RdAt w5 q bs) := HR.out.on (HB5.out.2.2.2.2 q HR.out.lt hqp)
    clear hm hb5 HM4 HB4 HC4
    go_wp2_with fail
    go_cut [5] from 94 (fun v wx => v = .bool false ∧ Hid (MRow wx p (mcs ph lf fi true hh f.1 f.2.1 f.2.2.1 ⟨f.2.2.2.toArray⟩ T ((k : Int) + 1) ar q tk s g)) ∧ Hid (But q w5 wx))
    case first =>
      go_region_with (first | (go_at_call 73; refine (refBit_any _ _).mono ?_; rintro e w' ⟨rfl, rfl⟩) | (go_at_call 67; refine (HN.out _ (by exact HR5.out)).mono ?_; rintro e w6 ⟨rfl, hb2⟩; have HM2 : Hid (MRow w6 p (mcs ph lf fi true hh f.1 f.2.1 f.2.2.1 ⟨f.2.2.2.toArray⟩ T ((k : Int) + 1) ar q tk s g)) := HM5.out.drewN hb2 hpq; have HB2 : Hid (But q w5 w6) := (drew_but rfl).trans hb2; clear hb2))
      all_goals
        go_wp2_with fail
        go_meet
        case rel => exact ⟨rfl, HM2, HB2⟩
    case rest =>
      obtain ⟨rfl, HMc, HBc⟩ := hcut
      clear HM5 HR5 HN HR HM cb12 fb12
      have hk2 : ((k : Int) + 1 == (L : Int)) = true := beq_iff_eq.2 (by omega)
      go_wp2_with fail
      have HC6 : Hid (∀ w', Below wc.heap.size wc w' → w'.cell? ⟨p, 10, none⟩ = some (.int .i64 ((k : Int) + 1)) ∧ w'.cell? ⟨p, 9, none⟩ = some (.string T)) := fun w' hb => ⟨(HMc.out.on hb).c 10 _ rfl, (HMc.out.on hb).c 9 _ rfl⟩
      refine Lw.wp_region_quiet_below (by kernel_rfl) (by kernel_rfl) ?_
      repeat (first
        | go_big_quiet_skip
        | (go_big_quiet_want; go_big_quiet_op; go_big_quiet_on)
        | (go_big_quiet_want; go_big_quiet_op; apply Exists.intro; refine ⟨fun _ hb' => ?_, ?_⟩; (first
          | exact Lw.val_rfl _
          | (simp [go_sem, (HC6.out _ hb').1]; rfl)
          | (simp [go_sem, (HC6.out _ hb').2]; rfl)); go_big_quiet_on))
      refine wpQuiet_nil ?_
      intro w7 hb7
      have hm := HMc.out.on hb7
      have HM7 : Hid (MRow w7 p _) := hm
      have HB7 : Hid (But q w5 w7) := HBc.out.join hb7
      have cd3 : w7.cell? ⟨p, 3, none⟩ = some (.bool true) := hm.c 3 _ rfl
      have fd3 : w7.frozen? ⟨p, 3, none⟩ = false := hm.f 3
      have cd14 : w7.cell? ⟨p, 14, none⟩ = some (.int .i64 s) := hm.c 14 _ rfl
      have fd14 : w7.frozen? ⟨p, 14, none⟩ = false := hm.f 14
      have cd15 : w7.cell? ⟨p, 15, none⟩ = some (.int .i64 g) := hm.c 15 _ rfl
      have fd15 : w7.frozen? ⟨p, 15, none⟩ = false := hm.f 15
      clear HC6 HMc HBc hb7 hm
      go_wp2_with fail
      refine (HSn.out _).mono ?_
      rintro e w8 ⟨rfl, hb8⟩
      have hm := HM7.out.on hb8
      have HM8 : Hid (MRow w8 p _) := hm
      have HB8 : Hid (But q w5 w8) := HB7.out.join hb8
      have ce3 : w8.cell? ⟨p, 3, none⟩ = some (.bool true) := hm.c 3 _ rfl
      have fe3 : w8.frozen? ⟨p, 3, none⟩ = false := hm.f 3
      have ce14 : w8.cell? ⟨p, 14, none⟩ = some (.int .i64 s) := hm.c 14 _ rfl
      have fe14 : w8.frozen? ⟨p, 14, none⟩ = false := hm.f 14
      have ce15 : w8.cell? ⟨p, 15, none⟩ = some (.int .i64 g) := hm.c 15 _ rfl
      have fe15 : w8.frozen? ⟨p, 15, none⟩ = false := hm.f 15
      clear hm hb8 HM7 HB7 HSn cd3 cd14 cd15 fd3 fd14 fd15
      go_wp2_with fail
      refine (rpause_any _ p ph lf fi false hh f.1 f.2.1 f.2.2.1 ⟨f.2.2.2.toArray⟩ T ((k : Int) + 1) ar q tk S g (((HM8.out.set 14 _).set 15 _).set 3 _)).mono ?_
      rintro e w9 ⟨rfl, hm, hp9⟩
      have HM9 : Hid (MRow w9 p (mcs 4 3 fi false hh f.1 f.2.1 f.2.2.1 ⟨f.2.2.2.toArray⟩ T ((k : Int) + 1) ar q tk S g)) := hm
      have HK9 : Hid (Kept (fun j => j = p ∨ j = q) w w9) := by
        have h1 : Kept (fun j => j = p ∨ j = q) w w8 := (kept2 HB5.out HB8.out).mono (fun g e => e.symm)
        have h2 : But p w8 w9 := ((But.refl p w8).set1.set1.set1).trans hp9
        exact h1.trans (G := fun j => j = p) ⟨h2.1, h2.2.1, h2.2.2.1, h2.2.2.2.1, h2.2.2.2.2⟩ (fun g e => Or.inl (Or.inl e))
      have cg5 : w9.cell? ⟨p, 5, none⟩ = some (.bool f.1) := hm.c 5 _ rfl
      have fg5 : w9.frozen? ⟨p, 5, none⟩ = false := hm.f 5
      have cg6 : w9.cell? ⟨p, 6, none⟩ = some (.int .u32 f.2.1) := hm.c 6 _ rfl
      have fg6 : w9.frozen? ⟨p, 6, none⟩ = false := hm.f 6
      have cg7 : w9.cell? ⟨p, 7, none⟩ = some (.bool f.2.2.1) := hm.c 7 _ rfl
      have fg7 : w9.frozen? ⟨p, 7, none⟩ = false := hm.f 7
      have cg8 : w9.cell? ⟨p, 8, none⟩ = some (.string ⟨f.2.2.2.toArray⟩) := hm.c 8 _ rfl
      have fg8 : w9.frozen? ⟨p, 8, none⟩ = false := hm.f 8
      clear hm hp9 HM8 HB8 HB5 ce3 ce14 ce15 fe3 fe14 fe15
      go_wp2
      go_ret
      have hb := (Below.refl w9.heap.size w9).alloc (Nat.le_refl _) (.cells #[.int .i64 1, .bool f.1, .int .u32 (f.2.1 : Int), .bool f.2.2.1, .string ⟨f.2.2.2.toArray⟩, .int .i64 0] 60)
      exact ⟨_, _, rfl, EvAt.one (v := ⟨1, f, 0⟩) (heap_alloc_new _ _) HK9.out.size, (fun b o e => by injection e with e; injection e with e; have := HK9.out.size; omega), HK9.out.trans (Kept.of_below (F := fun _ => False) hb) (fun g e => e.elim), HM9.out.on hb⟩
  · skip
    replace HIx : ∀ W, (Instr.index 9 (.string T) (.int .i64 (k : Int))).run Tryz.prog W = .ok (.int .u8 49) W := HIx
    have hAp : ¬ ((k : Int) + 1 = (L : Int) - 8) := by omega
    have hA' : ((k : Int) + 1 == (L : Int) - 8) = false := beq_eq_false_iff_ne.2 hAp
    clear hn hA
    go_enter Tryz.func46, Tryz.ntmps46
    go_wp2_with fail
    refine Lw.wp_region_quiet_below (by kernel_rfl) (by kernel_rfl) ?_
    repeat (first
      | go_big_quiet_skip
      | (go_big_quiet_want; go_big_quiet_op; go_big_quiet_on)
      | (go_big_quiet_want; go_big_quiet_op; apply Exists.intro; refine ⟨fun _ hb' => ?_, ?_⟩; (first
        | exact Lw.val_rfl _
        | (simp [go_sem, (HC.out _ hb').1]; rfl)
        | (simp [go_sem, (HC.out _ hb').2]; rfl)
        | (simp [go_sem, HIx]; rfl)); go_big_quiet_on))
    refine wpQuiet_nil ?_
    intro w2 hb2
    have hm := HM.out.on hb2
    have HM2 : Hid (MRow w2 p _) := hm
    have HB2 : Hid (But p w w2) := But.of_below hb2
    have ca10 : w2.cell? ⟨p, 10, none⟩ = some (.int .i64 k) := hm.c 10 _ rfl
    have fa10 : w2.frozen? ⟨p, 10, none⟩ = false := hm.f 10
    clear hm hb2 HC HIx
    go_wp2_with fail
    have HM3 : Hid (MRow (w2.setCell ⟨p, 10, none⟩ (.int .i64 ((k : Int) + 1))) p (mcs ph lf fi true hh f.1 f.2.1 f.2.2.1 ⟨f.2.2.2.toArray⟩ T ((k : Int) + 1) ar q tk s g)) := HM2.out.set 10 _
    have HB3 : Hid (But p w (w2.setCell ⟨p, 10, none⟩ (.int .i64 ((k : Int) + 1)))) := HB2.out.set1
    clear HM2 HB2 ca10 fa10
    generalize w2.setCell ⟨p, 10, none⟩ (.int .i64 ((k : Int) + 1)) = w3 at HM3 HB3 ⊢
    have HC3 : Hid (∀ w', Below w3.heap.size w3 w' → w'.cell? ⟨p, 10, none⟩ = some (.int .i64 ((k : Int) + 1)) ∧ w'.cell? ⟨p, 11, none⟩ = some (.int .i64 (ar : Int))) := fun w' hb => ⟨(HM3.out.on hb).c 10 _ rfl, (HM3.out.on hb).c 11 _ rfl⟩
    refine Lw.wp_region_quiet_below (by kernel_rfl) (by kernel_rfl) ?_
    repeat (first
      | go_big_quiet_skip
      | (go_big_quiet_want; go_big_quiet_op; go_big_quiet_on)
      | (go_big_quiet_want; go_big_quiet_op; apply Exists.intro; refine ⟨fun _ hb' => ?_, ?_⟩; (first
        | exact Lw.val_rfl _
        | (simp [go_sem, (HC3.out _ hb').1]; rfl)
        | (simp [go_sem, (HC3.out _ hb').2]; rfl)); go_big_quiet_on))
    refine wpQuiet_nil ?_
    intro w4 hb4
    have HM4 : Hid (MRow w4 p _) := HM3.out.on hb4
    have HB4 : Hid (But p w w4) := HB3.out.join hb4
    clear hb4 HM3 HB3 HC3
    go_wp2_with fail
    have HC4 : Hid (∀ w', Below w4.heap.size w4 w' → w'.cell? ⟨p, 10, none⟩ = some (.int .i64 ((k : Int) + 1)) ∧ w'.cell? ⟨p, 9, none⟩ = some (.string T)) := fun w' hb => ⟨(HM4.out.on hb).c 10 _ rfl, (HM4.out.on hb).c 9 _ rfl⟩
    refine Lw.wp_region_quiet_below (by kernel_rfl) (by kernel_rfl) ?_
    repeat (first
      | go_big_quiet_skip
      | (go_big_quiet_want; go_big_quiet_op; go_big_quiet_on)
      | (go_big_quiet_want; go_big_quiet_op; apply Exists.intro; refine ⟨fun _ hb' => ?_, ?_⟩; (first
        | exact Lw.val_rfl _
        | (simp [go_sem, (HC4.out _ hb').1]; rfl)
        | (simp [go_sem, (HC4.out _ hb').2]; rfl)); go_big_quiet_on))
    refine wpQuiet_nil ?_
    intro w5 hb5
    have hm := HM4.out.on hb5
    have HM5 : Hid (MRow w5 p _) := hm
    have HB5 : Hid (But p w w5) := HB4.out.join hb5
    have cb12 : w5.cell? ⟨p, 12, none⟩ = some (.pointer (some ⟨q, 0, none⟩)) := hm.c 12 _ rfl
    have fb12 : w5.frozen? ⟨p, 12, none⟩ = false := hm.f 12
    have HR5 : Hid (RdAt w5 q bs) := HR.out.on (HB5.out.2.2.2.2 q HR.out.lt hqp)
    clear hm hb5 HM4 HB4 HC4
    go_wp2_with fail
    go_cut [5] from 94 (fun v wx => v = .bool true ∧ Hid (MRow wx p (mcs ph lf fi true hh f.1 f.2.1 f.2.2.1 ⟨f.2.2.2.toArray⟩ T ((k : Int) + 1) ar q tk s g)) ∧ Hid (But q w5 wx))
    case first =>
      go_region_with (first | (go_at_call 73; refine (refBit_any _ _).mono ?_; rintro e w' ⟨rfl, rfl⟩) | (go_at_call 67; refine (HN.out _ (by exact HR5.out)).mono ?_; rintro e w6 ⟨rfl, hb2⟩; have HM2 : Hid (MRow w6 p (mcs ph lf fi true hh f.1 f.2.1 f.2.2.1 ⟨f.2.2.2.toArray⟩ T ((k : Int) + 1) ar q tk s g)) := HM5.out.drewN hb2 hpq; have HB2 : Hid (But q w5 w6) := (drew_but rfl).trans hb2; clear hb2))
      all_goals
        go_wp2_with fail
        go_meet
        case rel => exact ⟨rfl, HM2, HB2⟩
    case rest =>
      obtain ⟨rfl, HMc, HBc⟩ := hcut
      clear HM5 HR5 HN HR HM cb12 fb12
      have hk2 : ((k : Int) + 1 == (L : Int)) = true := beq_iff_eq.2 (by omega)
      go_wp2_with fail
      have HC6 : Hid (∀ w', Below wc.heap.size wc w' → w'.cell? ⟨p, 10, none⟩ = some (.int .i64 ((k : Int) + 1)) ∧ w'.cell? ⟨p, 9, none⟩ = some (.string T)) := fun w' hb => ⟨(HMc.out.on hb).c 10 _ rfl, (HMc.out.on hb).c 9 _ rfl⟩
      refine Lw.wp_region_quiet_below (by kernel_rfl) (by kernel_rfl) ?_
      repeat (first
        | go_big_quiet_skip
        | (go_big_quiet_want; go_big_quiet_op; go_big_quiet_on)
        | (go_big_quiet_want; go_big_quiet_op; apply Exists.intro; refine ⟨fun _ hb' => ?_, ?_⟩; (first
          | exact Lw.val_rfl _
          | (simp [go_sem, (HC6.out _ hb').1]; rfl)
          | (simp [go_sem, (HC6.out _ hb').2]; rfl)); go_big_quiet_on))
      refine wpQuiet_nil ?_
      intro w7 hb7
      have hm := HMc.out.on hb7
      have HM7 : Hid (MRow w7 p _) := hm
      have HB7 : Hid (But q w5 w7) := HBc.out.join hb7
      have cd3 : w7.cell? ⟨p, 3, none⟩ = some (.bool true) := hm.c 3 _ rfl
      have fd3 : w7.frozen? ⟨p, 3, none⟩ = false := hm.f 3
      have cd14 : w7.cell? ⟨p, 14, none⟩ = some (.int .i64 s) := hm.c 14 _ rfl
      have fd14 : w7.frozen? ⟨p, 14, none⟩ = false := hm.f 14
      have cd15 : w7.cell? ⟨p, 15, none⟩ = some (.int .i64 g) := hm.c 15 _ rfl
      have fd15 : w7.frozen? ⟨p, 15, none⟩ = false := hm.f 15
      clear HC6 HMc HBc hb7 hm
      go_wp2_with fail
      refine (HSn.out _).mono ?_
      rintro e w8 ⟨rfl, hb8⟩
      have hm := HM7.out.on hb8
      have HM8 : Hid (MRow w8 p _) := hm
      have HB8 : Hid (But q w5 w8) := HB7.out.join hb8
      have ce3 : w8.cell? ⟨p, 3, none⟩ = some (.bool true) := hm.c 3 _ rfl
      have fe3 : w8.frozen? ⟨p, 3, none⟩ = false := hm.f 3
      have ce14 : w8.cell? ⟨p, 14, none⟩ = some (.int .i64 s) := hm.c 14 _ rfl
      have fe14 : w8.frozen? ⟨p, 14, none⟩ = false := hm.f 14
      have ce15 : w8.cell? ⟨p, 15, none⟩ = some (.int .i64 g) := hm.c 15 _ rfl
      have fe15 : w8.frozen? ⟨p, 15, none⟩ = false := hm.f 15
      clear hm hb8 HM7 HB7 HSn cd3 cd14 cd15 fd3 fd14 fd15
      go_wp2_with fail
      refine (rpause_any _ p ph lf fi false hh f.1 f.2.1 f.2.2.1 ⟨f.2.2.2.toArray⟩ T ((k : Int) + 1) ar q tk S g (((HM8.out.set 14 _).set 15 _).set 3 _)).mono ?_
      rintro e w9 ⟨rfl, hm, hp9⟩
      have HM9 : Hid (MRow w9 p (mcs 4 3 fi false hh f.1 f.2.1 f.2.2.1 ⟨f.2.2.2.toArray⟩ T ((k : Int) + 1) ar q tk S g)) := hm
      have HK9 : Hid (Kept (fun j => j = p ∨ j = q) w w9) := by
        have h1 : Kept (fun j => j = p ∨ j = q) w w8 := (kept2 HB5.out HB8.out).mono (fun g e => e.symm)
        have h2 : But p w8 w9 := ((But.refl p w8).set1.set1.set1).trans hp9
        exact h1.trans (G := fun j => j = p) ⟨h2.1, h2.2.1, h2.2.2.1, h2.2.2.2.1, h2.2.2.2.2⟩ (fun g e => Or.inl (Or.inl e))
      have cg5 : w9.cell? ⟨p, 5, none⟩ = some (.bool f.1) := hm.c 5 _ rfl
      have fg5 : w9.frozen? ⟨p, 5, none⟩ = false := hm.f 5
      have cg6 : w9.cell? ⟨p, 6, none⟩ = some (.int .u32 f.2.1) := hm.c 6 _ rfl
      have fg6 : w9.frozen? ⟨p, 6, none⟩ = false := hm.f 6
      have cg7 : w9.cell? ⟨p, 7, none⟩ = some (.bool f.2.2.1) := hm.c 7 _ rfl
      have fg7 : w9.frozen? ⟨p, 7, none⟩ = false := hm.f 7
      have cg8 : w9.cell? ⟨p, 8, none⟩ = some (.string ⟨f.2.2.2.toArray⟩) := hm.c 8 _ rfl
      have fg8 : w9.frozen? ⟨p, 8, none⟩ = false := hm.f 8
      clear hm hp9 HM8 HB8 HB5 ce3 ce14 ce15 fe3 fe14 fe15
      go_wp2
      go_ret
      have hb := (Below.refl w9.heap.size w9).alloc (Nat.le_refl _) (.cells #[.int .i64 1, .bool f.1, .int .u32 (f.2.1 : Int), .bool f.2.2.1, .string ⟨f.2.2.2.toArray⟩, .int .i64 0] 60)
      exact ⟨_, _, rfl, EvAt.one (v := ⟨1, f, 0⟩) (heap_alloc_new _ _) HK9.out.size, (fun b o e => by injection e with e; injection e with e; have := HK9.out.size; omega), HK9.out.trans (Kept.of_below (F := fun _ => False) hb) (fun g e => e.elim), HM9.out.on hb⟩
end Go.Proofs.YthkaekpoicodeaaGreatDoor
