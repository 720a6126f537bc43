/- The document's own node on the wire: sending, over its text. -/
import Derived.Test.YthkaekpoicodeaaGreatDoorUk
namespace Go.Proofs.YthkaekpoicodeaaGreatDoor
open Go.RowKit
set_option linter.unusedVariables false
set_option maxRecDepth 100000 in
set_option maxHeartbeats 2000000 in
theorem rsend1_any (w : World) (p : Nat) (ph lf : Int) (fi hh : Bool) (f : Cm.Fr) (q : Nat) (tk : Bool) (s g : Int) (k ar E : Nat) (c : Bool) (hk : k < (Mm.outB f).length) (hL : 44 ≤ (Mm.outB f).length) (hL2 : (Mm.outB f).length ≤ 200) (har : ar ≤ 200)
    (hn : ¬ ((Mm.outB f).getD k true = true ∧ c = false ∧ k + 1 ≤ ar)) (hE : (k + 1 = (Mm.outB f).length - 8 ∧ c = true ∧ E = 71) ∨ (k + 1 ≠ (Mm.outB f).length - 8 ∧ (Mm.outB f).getD k true ≠ c ∧ E = 70))
    (h : MRow w p (mcs ph lf fi true hh f.1 f.2.1 f.2.2.1 ⟨f.2.2.2.toArray⟩ ⟨(Bm.row (Mm.outB f)).toArray⟩ k ar q tk s g)) :
    Calls Tryz.prog 46 #[bptr p, .bool c] w fun e w' => ∃ sl cap, e = .returned (.slice sl (badE (Km.sentS s g false) ⟨4, f, E⟩).length cap) ∧ EvAt w.heap.size w' sl cap (badE (Km.sentS s g false) ⟨4, f, E⟩) ∧ (∀ b o, sl = some ⟨b, o, none⟩ → w.heap.size ≤ b) ∧ But p w w' ∧
      ∃ at', MRow w' p (mcs (phI (badP (Km.sentS s g false))) 6 fi false (badH (Km.sentS s g false) hh) f.1 f.2.1 f.2.2.1 ⟨f.2.2.2.toArray⟩ ⟨(Bm.row (Mm.outB f)).toArray⟩ at' ar q tk (Km.sentS s g false) g) := by
  have HM : Hid (MRow w p (mcs ph lf fi true hh f.1 f.2.1 f.2.2.1 ⟨f.2.2.2.toArray⟩ ⟨(Bm.row (Mm.outB f)).toArray⟩ k ar q tk s g)) := h
  have hlt := h.lt
  have HIx : ∀ W, (Instr.index 9 (.string ⟨(Bm.row (Mm.outB f)).toArray⟩) (.int .i64 (k : Int))).run Tryz.prog W = .ok (.int .u8 (if (Mm.outB f).getD k true then 49 else 48)) W := fun W => by
    rw [idx_row (Mm.outB f) k hk W]
    cases (Mm.outB f).getD k true <;> rfl
  have hz : (ByteArray.mk (Bm.row (Mm.outB f)).toArray).size = (Mm.outB f).length := by show (Bm.row (Mm.outB f)).toArray.size = _; simp [Bm.row]
  have c9 : w.cell? ⟨p, 9, none⟩ = some (.string ⟨(Bm.row (Mm.outB f)).toArray⟩) := h.c 9 _ rfl
  have c10 : w.cell? ⟨p, 10, none⟩ = some (.int .i64 (k : Int)) := h.c 10 _ rfl
  have HC : Hid (∀ w', Below w.heap.size w w' → w'.cell? ⟨p, 9, none⟩ = some (.string ⟨(Bm.row (Mm.outB f)).toArray⟩) ∧ w'.cell? ⟨p, 10, none⟩ = some (.int .i64 (k : Int))) := fun w' hb => ⟨(hb.cell (p := ⟨p, 9, none⟩) h.lt).trans c9, (hb.cell (p := ⟨p, 10, none⟩) h.lt).trans c10⟩
  have HSn : Hid (∀ w, Calls Tryz.prog 71 #[.agg #[.int .i64 s, .int .i64 g], .bool false] w fun e w' => e = .returned (.agg #[.int .i64 (Km.sentS s g false), .int .i64 g]) ∧ Below w.heap.size w w') := fun w => rsent_any s g false w
  clear h c9 c10
  generalize ByteArray.mk (Bm.row (Mm.outB f)).toArray = T at *
  generalize (Mm.outB f).getD k true = D at *
  generalize (Mm.outB f).length = L at *
  generalize Km.sentS s g false = S at *
  cases D <;> cases c
  · rcases hE with ⟨_, e, _⟩ | ⟨_, e, _⟩
    · cases e
    · exact absurd rfl e
  · rcases hE with ⟨hA, _, rfl⟩ | ⟨hA, _, rfl⟩
    · skip
      replace HIx : ∀ W, (Instr.index 9 (.string T) (.int .i64 (k : Int))).run Tryz.prog W = .ok (.int .u8 48) W := HIx
      have hAp : ((k : Int) + 1 = (L : Int) - 8) := by omega
      have hA' : ((k : Int) + 1 == (L : Int) - 8) = true := beq_iff_eq.2 hAp
      clear hn hA hAp
      go_enter Tryz.func46, Tryz.ntmps46
      go_wp2_with fail
      refine Lw.wp_region_quiet_below (by kernel_rfl) (by kernel_rfl) ?_
      repeat (first
        | go_big_quiet_skip
        | (go_big_quiet_want; go_big_quiet_op; go_big_quiet_on)
        | (go_big_quiet_want; go_big_quiet_op; apply Exists.intro; refine ⟨fun _ hb' => ?_, ?_⟩; (first
          | exact Lw.val_rfl _
          | (simp [go_sem, (HC.out _ hb').1]; rfl)
          | (simp [go_sem, (HC.out _ hb').2]; rfl)
          | (simp [go_sem, HIx]; rfl)); go_big_quiet_on))
      refine wpQuiet_nil ?_
      intro w2 hb2
      have hm := HM.out.on hb2
      have HM2 : Hid (MRow w2 p _) := hm
      have HB2 : Hid (But p w w2) := But.of_below hb2
      have ca10 : w2.cell? ⟨p, 10, none⟩ = some (.int .i64 k) := hm.c 10 _ rfl
      have fa10 : w2.frozen? ⟨p, 10, none⟩ = false := hm.f 10
      clear hm hb2 HC HIx
      go_wp2_with fail
      have HM3 : Hid (MRow (w2.setCell ⟨p, 10, none⟩ (.int .i64 ((k : Int) + 1))) p (mcs ph lf fi true hh f.1 f.2.1 f.2.2.1 ⟨f.2.2.2.toArray⟩ T ((k : Int) + 1) ar q tk s g)) := HM2.out.set 10 _
      have HB3 : Hid (But p w (w2.setCell ⟨p, 10, none⟩ (.int .i64 ((k : Int) + 1)))) := HB2.out.set1
      clear HM2 HB2 ca10 fa10
      generalize w2.setCell ⟨p, 10, none⟩ (.int .i64 ((k : Int) + 1)) = w3 at HM3 HB3 ⊢
      have HC3 : Hid (∀ w', Below w3.heap.size w3 w' → w'.cell? ⟨p, 10, none⟩ = some (.int .i64 ((k : Int) + 1)) ∧ w'.cell? ⟨p, 11, none⟩ = some (.int .i64 (ar : Int))) := fun w' hb => ⟨(HM3.out.on hb).c 10 _ rfl, (HM3.out.on hb).c 11 _ rfl⟩
      refine Lw.wp_region_quiet_below (by kernel_rfl) (by kernel_rfl) ?_
      repeat (first
        | go_big_quiet_skip
        | (go_big_quiet_want; go_big_quiet_op; go_big_quiet_on)
        | (go_big_quiet_want; go_big_quiet_op; apply Exists.intro; refine ⟨fun _ hb' => ?_, ?_⟩; (first
          | exact Lw.val_rfl _
          | (simp [go_sem, (HC3.out _ hb').1]; rfl)
          | (simp [go_sem, (HC3.out _ hb').2]; rfl)); go_big_quiet_on))
      refine wpQuiet_nil ?_
      intro w4 hb4
      have HM4 : Hid (MRow w4 p _) := HM3.out.on hb4
      have HB4 : Hid (But p w w4) := HB3.out.join hb4
      clear hb4 HM3 HB3 HC3
      go_wp2_with fail
      have HC4 : Hid (∀ w', Below w4.heap.size w4 w' → w'.cell? ⟨p, 10, none⟩ = some (.int .i64 ((k : Int) + 1)) ∧ w'.cell? ⟨p, 9, none⟩ = some (.string T)) := fun w' hb => ⟨(HM4.out.on hb).c 10 _ rfl, (HM4.out.on hb).c 9 _ rfl⟩
      refine Lw.wp_region_quiet_below (by kernel_rfl) (by kernel_rfl) ?_
      repeat (first
        | go_big_quiet_skip
        | (go_big_quiet_want; go_big_quiet_op; go_big_quiet_on)
        | (go_big_quiet_want; go_big_quiet_op; apply Exists.intro; refine ⟨fun _ hb' => ?_, ?_⟩; (first
          | exact Lw.val_rfl _
          | (simp [go_sem, (HC4.out _ hb').1]; rfl)
          | (simp [go_sem, (HC4.out _ hb').2]; rfl)); go_big_quiet_on))
      refine wpQuiet_nil ?_
      intro w5 hb5
      have hm := HM4.out.on hb5
      have HM5 : Hid (MRow w5 p _) := hm
      have HB5 : Hid (But p w w5) := HB4.out.join hb5
      have cb14 : w5.cell? ⟨p, 14, none⟩ = some (.int .i64 s) := hm.c 14 _ rfl
      have fb14 : w5.frozen? ⟨p, 14, none⟩ = false := hm.f 14
      have cb15 : w5.cell? ⟨p, 15, none⟩ = some (.int .i64 g) := hm.c 15 _ rfl
      have fb15 : w5.frozen? ⟨p, 15, none⟩ = false := hm.f 15
      clear hm hb5 HM4 HB4 HC4
      go_wp2_with fail
      refine (HSn.out _).mono ?_
      rintro e w6 ⟨rfl, hb6⟩
      have hm := HM5.out.on hb6
      have HM6 : Hid (MRow w6 p _) := hm
      have HB6 : Hid (But p w w6) := HB5.out.join hb6
      have cc5 : w6.cell? ⟨p, 5, none⟩ = some (.bool f.1) := hm.c 5 _ rfl
      have fc5 : w6.frozen? ⟨p, 5, none⟩ = false := hm.f 5
      have cc6 : w6.cell? ⟨p, 6, none⟩ = some (.int .u32 f.2.1) := hm.c 6 _ rfl
      have fc6 : w6.frozen? ⟨p, 6, none⟩ = false := hm.f 6
      have cc7 : w6.cell? ⟨p, 7, none⟩ = some (.bool f.2.2.1) := hm.c 7 _ rfl
      have fc7 : w6.frozen? ⟨p, 7, none⟩ = false := hm.f 7
      have cc8 : w6.cell? ⟨p, 8, none⟩ = some (.string ⟨f.2.2.2.toArray⟩) := hm.c 8 _ rfl
      have fc8 : w6.frozen? ⟨p, 8, none⟩ = false := hm.f 8
      have cc14 : w6.cell? ⟨p, 14, none⟩ = some (.int .i64 s) := hm.c 14 _ rfl
      have fc14 : w6.frozen? ⟨p, 14, none⟩ = false := hm.f 14
      have cc15 : w6.cell? ⟨p, 15, none⟩ = some (.int .i64 g) := hm.c 15 _ rfl
      have fc15 : w6.frozen? ⟨p, 15, none⟩ = false := hm.f 15
      clear hm hb6 HM5 HB5 HSn cb14 cb15 fb14 fb15
      go_wp2_with fail
      refine (rbad_both _ p ph lf fi true hh f.1 f.2.1 f.2.2.1 ⟨f.2.2.2.toArray⟩ T ((k : Int) + 1) ar q tk S g ⟨4, f, 71⟩ ⟨f.2.2.2.toArray⟩ rfl ((HM6.out.set 14 _).set 15 _)).mono ?_
      rintro e w7 ⟨sl, cap, rfl, h1, h2, h3, h4⟩
      have hs : w.heap.size ≤ w6.heap.size := HB6.out.2.2.2.1
      have HE : Hid (EvAt w.heap.size w7 sl cap (badE S ⟨4, f, 71⟩) ∧ (∀ b o, sl = some ⟨b, o, none⟩ → w.heap.size ≤ b) ∧ But p w w7 ∧ MRow w7 p (mcs (phI (badP S)) 6 fi false (badH S hh) f.1 f.2.1 f.2.2.1 ⟨f.2.2.2.toArray⟩ T ((k : Int) + 1) ar q tk S g)) :=
        ⟨h1.base (by simp; exact hs), (fun b o e => by have := h2 b o e; simp at this; omega), (HB6.out.set1.set1).trans h3, h4⟩
      clear h1 h2 h3 h4 HM6 HB6
      go_wp2
      go_ret
      exact ⟨_, _, rfl, HE.out.1, HE.out.2.1, HE.out.2.2.1, _, HE.out.2.2.2⟩
    · skip
      replace HIx : ∀ W, (Instr.index 9 (.string T) (.int .i64 (k : Int))).run Tryz.prog W = .ok (.int .u8 48) W := HIx
      have hAp : ¬ ((k : Int) + 1 = (L : Int) - 8) := by omega
      have hA' : ((k : Int) + 1 == (L : Int) - 8) = false := beq_eq_false_iff_ne.2 hAp
      clear hn hA
      go_enter Tryz.func46, Tryz.ntmps46
      go_wp2_with fail
      refine Lw.wp_region_quiet_below (by kernel_rfl) (by kernel_rfl) ?_
      repeat (first
        | go_big_quiet_skip
        | (go_big_quiet_want; go_big_quiet_op; go_big_quiet_on)
        | (go_big_quiet_want; go_big_quiet_op; apply Exists.intro; refine ⟨fun _ hb' => ?_, ?_⟩; (first
          | exact Lw.val_rfl _
          | (simp [go_sem, (HC.out _ hb').1]; rfl)
          | (simp [go_sem, (HC.out _ hb').2]; rfl)
          | (simp [go_sem, HIx]; rfl)); go_big_quiet_on))
      refine wpQuiet_nil ?_
      intro w2 hb2
      have hm := HM.out.on hb2
      have HM2 : Hid (MRow w2 p _) := hm
      have HB2 : Hid (But p w w2) := But.of_below hb2
      have ca10 : w2.cell? ⟨p, 10, none⟩ = some (.int .i64 k) := hm.c 10 _ rfl
      have fa10 : w2.frozen? ⟨p, 10, none⟩ = false := hm.f 10
      clear hm hb2 HC HIx
      go_wp2_with fail
      have HM3 : Hid (MRow (w2.setCell ⟨p, 10, none⟩ (.int .i64 ((k : Int) + 1))) p (mcs ph lf fi true hh f.1 f.2.1 f.2.2.1 ⟨f.2.2.2.toArray⟩ T ((k : Int) + 1) ar q tk s g)) := HM2.out.set 10 _
      have HB3 : Hid (But p w (w2.setCell ⟨p, 10, none⟩ (.int .i64 ((k : Int) + 1)))) := HB2.out.set1
      clear HM2 HB2 ca10 fa10
      generalize w2.setCell ⟨p, 10, none⟩ (.int .i64 ((k : Int) + 1)) = w3 at HM3 HB3 ⊢
      have HC3 : Hid (∀ w', Below w3.heap.size w3 w' → w'.cell? ⟨p, 10, none⟩ = some (.int .i64 ((k : Int) + 1)) ∧ w'.cell? ⟨p, 11, none⟩ = some (.int .i64 (ar : Int))) := fun w' hb => ⟨(HM3.out.on hb).c 10 _ rfl, (HM3.out.on hb).c 11 _ rfl⟩
      refine Lw.wp_region_quiet_below (by kernel_rfl) (by kernel_rfl) ?_
      repeat (first
        | go_big_quiet_skip
        | (go_big_quiet_want; go_big_quiet_op; go_big_quiet_on)
        | (go_big_quiet_want; go_big_quiet_op; apply Exists.intro; refine ⟨fun _ hb' => ?_, ?_⟩; (first
          | exact Lw.val_rfl _
          | (simp [go_sem, (HC3.out _ hb').1]; rfl)
          | (simp [go_sem, (HC3.out _ hb').2]; rfl)); go_big_quiet_on))
      refine wpQuiet_nil ?_
      intro w4 hb4
      have HM4 : Hid (MRow w4 p _) := HM3.out.on hb4
      have HB4 : Hid (But p w w4) := HB3.out.join hb4
      clear hb4 HM3 HB3 HC3
      go_wp2_with fail
      have HC4 : Hid (∀ w', Below w4.heap.size w4 w' → w'.cell? ⟨p, 10, none⟩ = some (.int .i64 ((k : Int) + 1)) ∧ w'.cell? ⟨p, 9, none⟩ = some (.string T)) := fun w' hb => ⟨(HM4.out.on hb).c 10 _ rfl, (HM4.out.on hb).c 9 _ rfl⟩
      refine Lw.wp_region_quiet_below (by kernel_rfl) (by kernel_rfl) ?_
      repeat (first
        | go_big_quiet_skip
        | (go_big_quiet_want; go_big_quiet_op; go_big_quiet_on)
        | (go_big_quiet_want; go_big_quiet_op; apply Exists.intro; refine ⟨fun _ hb' => ?_, ?_⟩; (first
          | exact Lw.val_rfl _
          | (simp [go_sem, (HC4.out _ hb').1]; rfl)
          | (simp [go_sem, (HC4.out _ hb').2]; rfl)); go_big_quiet_on))
      refine wpQuiet_nil ?_
      intro w5 hb5
      have hm := HM4.out.on hb5
      have HM5 : Hid (MRow w5 p _) := hm
      have HB5 : Hid (But p w w5) := HB4.out.join hb5
      have cb14 : w5.cell? ⟨p, 14, none⟩ = some (.int .i64 s) := hm.c 14 _ rfl
      have fb14 : w5.frozen? ⟨p, 14, none⟩ = false := hm.f 14
      have cb15 : w5.cell? ⟨p, 15, none⟩ = some (.int .i64 g) := hm.c 15 _ rfl
      have fb15 : w5.frozen? ⟨p, 15, none⟩ = false := hm.f 15
      clear hm hb5 HM4 HB4 HC4
      go_wp2_with fail
      refine (HSn.out _).mono ?_
      rintro e w6 ⟨rfl, hb6⟩
      have hm := HM5.out.on hb6
      have HM6 : Hid (MRow w6 p _) := hm
      have HB6 : Hid (But p w w6) := HB5.out.join hb6
      have cc5 : w6.cell? ⟨p, 5, none⟩ = some (.bool f.1) := hm.c 5 _ rfl
      have fc5 : w6.frozen? ⟨p, 5, none⟩ = false := hm.f 5
      have cc6 : w6.cell? ⟨p, 6, none⟩ = some (.int .u32 f.2.1) := hm.c 6 _ rfl
      have fc6 : w6.frozen? ⟨p, 6, none⟩ = false := hm.f 6
      have cc7 : w6.cell? ⟨p, 7, none⟩ = some (.bool f.2.2.1) := hm.c 7 _ rfl
      have fc7 : w6.frozen? ⟨p, 7, none⟩ = false := hm.f 7
      have cc8 : w6.cell? ⟨p, 8, none⟩ = some (.string ⟨f.2.2.2.toArray⟩) := hm.c 8 _ rfl
      have fc8 : w6.frozen? ⟨p, 8, none⟩ = false := hm.f 8
      have cc14 : w6.cell? ⟨p, 14, none⟩ = some (.int .i64 s) := hm.c 14 _ rfl
      have fc14 : w6.frozen? ⟨p, 14, none⟩ = false := hm.f 14
      have cc15 : w6.cell? ⟨p, 15, none⟩ = some (.int .i64 g) := hm.c 15 _ rfl
      have fc15 : w6.frozen? ⟨p, 15, none⟩ = false := hm.f 15
      clear hm hb6 HM5 HB5 HSn cb14 cb15 fb14 fb15
      go_wp2_with fail
      refine (rbad_both _ p ph lf fi true hh f.1 f.2.1 f.2.2.1 ⟨f.2.2.2.toArray⟩ T ((k : Int) + 1) ar q tk S g ⟨4, f, 70⟩ ⟨f.2.2.2.toArray⟩ rfl ((HM6.out.set 14 _).set 15 _)).mono ?_
      rintro e w7 ⟨sl, cap, rfl, h1, h2, h3, h4⟩
      have hs : w.heap.size ≤ w6.heap.size := HB6.out.2.2.2.1
      have HE : Hid (EvAt w.heap.size w7 sl cap (badE S ⟨4, f, 70⟩) ∧ (∀ b o, sl = some ⟨b, o, none⟩ → w.heap.size ≤ b) ∧ But p w w7 ∧ MRow w7 p (mcs (phI (badP S)) 6 fi false (badH S hh) f.1 f.2.1 f.2.2.1 ⟨f.2.2.2.toArray⟩ T ((k : Int) + 1) ar q tk S g)) :=
        ⟨h1.base (by simp; exact hs), (fun b o e => by have := h2 b o e; simp at this; omega), (HB6.out.set1.set1).trans h3, h4⟩
      clear h1 h2 h3 h4 HM6 HB6
      go_wp2
      go_ret
      exact ⟨_, _, rfl, HE.out.1, HE.out.2.1, HE.out.2.2.1, _, HE.out.2.2.2⟩
  · rcases hE with ⟨_, e, _⟩ | ⟨hA, _, rfl⟩
    · cases e
    · skip
      replace HIx : ∀ W, (Instr.index 9 (.string T) (.int .i64 (k : Int))).run Tryz.prog W = .ok (.int .u8 49) W := HIx
      have hAp : ¬ ((k : Int) + 1 = (L : Int) - 8) := by omega
      have hA' : ((k : Int) + 1 == (L : Int) - 8) = false := beq_eq_false_iff_ne.2 hAp
      have hn2 : ¬ (k + 1 ≤ ar) := fun h => hn ⟨rfl, rfl, h⟩
      have hle : decide (((k : Int) + 1) ≤ (ar : Int)) = false := decide_eq_false (by omega)
      clear hn hA
      go_enter Tryz.func46, Tryz.ntmps46
      go_wp2_with fail
      refine Lw.wp_region_quiet_below (by kernel_rfl) (by kernel_rfl) ?_
      repeat (first
        | go_big_quiet_skip
        | (go_big_quiet_want; go_big_quiet_op; go_big_quiet_on)
        | (go_big_quiet_want; go_big_quiet_op; apply Exists.intro; refine ⟨fun _ hb' => ?_, ?_⟩; (first
          | exact Lw.val_rfl _
          | (simp [go_sem, (HC.out _ hb').1]; rfl)
          | (simp [go_sem, (HC.out _ hb').2]; rfl)
          | (simp [go_sem, HIx]; rfl)); go_big_quiet_on))
      refine wpQuiet_nil ?_
      intro w2 hb2
      have hm := HM.out.on hb2
      have HM2 : Hid (MRow w2 p _) := hm
      have HB2 : Hid (But p w w2) := But.of_below hb2
      have ca10 : w2.cell? ⟨p, 10, none⟩ = some (.int .i64 k) := hm.c 10 _ rfl
      have fa10 : w2.frozen? ⟨p, 10, none⟩ = false := hm.f 10
      clear hm hb2 HC HIx
      go_wp2_with fail
      have HM3 : Hid (MRow (w2.setCell ⟨p, 10, none⟩ (.int .i64 ((k : Int) + 1))) p (mcs ph lf fi true hh f.1 f.2.1 f.2.2.1 ⟨f.2.2.2.toArray⟩ T ((k : Int) + 1) ar q tk s g)) := HM2.out.set 10 _
      have HB3 : Hid (But p w (w2.setCell ⟨p, 10, none⟩ (.int .i64 ((k : Int) + 1)))) := HB2.out.set1
      clear HM2 HB2 ca10 fa10
      generalize w2.setCell ⟨p, 10, none⟩ (.int .i64 ((k : Int) + 1)) = w3 at HM3 HB3 ⊢
      have HC3 : Hid (∀ w', Below w3.heap.size w3 w' → w'.cell? ⟨p, 10, none⟩ = some (.int .i64 ((k : Int) + 1)) ∧ w'.cell? ⟨p, 11, none⟩ = some (.int .i64 (ar : Int))) := fun w' hb => ⟨(HM3.out.on hb).c 10 _ rfl, (HM3.out.on hb).c 11 _ rfl⟩
      refine Lw.wp_region_quiet_below (by kernel_rfl) (by kernel_rfl) ?_
      repeat (first
        | go_big_quiet_skip
        | (go_big_quiet_want; go_big_quiet_op; go_big_quiet_on)
        | (go_big_quiet_want; go_big_quiet_op; apply Exists.intro; refine ⟨fun _ hb' => ?_, ?_⟩; (first
          | exact Lw.val_rfl _
          | (simp [go_sem, (HC3.out _ hb').1]; rfl)
          | (simp [go_sem, (HC3.out _ hb').2]; rfl)); go_big_quiet_on))
      refine wpQuiet_nil ?_
      intro w4 hb4
      have HM4 : Hid (MRow w4 p _) := HM3.out.on hb4
      have HB4 : Hid (But p w w4) := HB3.out.join hb4
      clear hb4 HM3 HB3 HC3
      go_wp2_with fail
      have HC4 : Hid (∀ w', Below w4.heap.size w4 w' → w'.cell? ⟨p, 10, none⟩ = some (.int .i64 ((k : Int) + 1)) ∧ w'.cell? ⟨p, 9, none⟩ = some (.string T)) := fun w' hb => ⟨(HM4.out.on hb).c 10 _ rfl, (HM4.out.on hb).c 9 _ rfl⟩
      refine Lw.wp_region_quiet_below (by kernel_rfl) (by kernel_rfl) ?_
      repeat (first
        | go_big_quiet_skip
        | (go_big_quiet_want; go_big_quiet_op; go_big_quiet_on)
        | (go_big_quiet_want; go_big_quiet_op; apply Exists.intro; refine ⟨fun _ hb' => ?_, ?_⟩; (first
          | exact Lw.val_rfl _
          | (simp [go_sem, (HC4.out _ hb').1]; rfl)
          | (simp [go_sem, (HC4.out _ hb').2]; rfl)); go_big_quiet_on))
      refine wpQuiet_nil ?_
      intro w5 hb5
      have hm := HM4.out.on hb5
      have HM5 : Hid (MRow w5 p _) := hm
      have HB5 : Hid (But p w w5) := HB4.out.join hb5
      have cb14 : w5.cell? ⟨p, 14, none⟩ = some (.int .i64 s) := hm.c 14 _ rfl
      have fb14 : w5.frozen? ⟨p, 14, none⟩ = false := hm.f 14
      have cb15 : w5.cell? ⟨p, 15, none⟩ = some (.int .i64 g) := hm.c 15 _ rfl
      have fb15 : w5.frozen? ⟨p, 15, none⟩ = false := hm.f 15
      clear hm hb5 HM4 HB4 HC4
      go_wp2_with fail
      refine (HSn.out _).mono ?_
      rintro e w6 ⟨rfl, hb6⟩
      have hm := HM5.out.on hb6
      have HM6 : Hid (MRow w6 p _) := hm
      have HB6 : Hid (But p w w6) := HB5.out.join hb6
      have cc5 : w6.cell? ⟨p, 5, none⟩ = some (.bool f.1) := hm.c 5 _ rfl
      have fc5 : w6.frozen? ⟨p, 5, none⟩ = false := hm.f 5
      have cc6 : w6.cell? ⟨p, 6, none⟩ = some (.int .u32 f.2.1) := hm.c 6 _ rfl
      have fc6 : w6.frozen? ⟨p, 6, none⟩ = false := hm.f 6
      have cc7 : w6.cell? ⟨p, 7, none⟩ = some (.bool f.2.2.1) := hm.c 7 _ rfl
      have fc7 : w6.frozen? ⟨p, 7, none⟩ = false := hm.f 7
      have cc8 : w6.cell? ⟨p, 8, none⟩ = some (.string ⟨f.2.2.2.toArray⟩) := hm.c 8 _ rfl
      have fc8 : w6.frozen? ⟨p, 8, none⟩ = false := hm.f 8
      have cc14 : w6.cell? ⟨p, 14, none⟩ = some (.int .i64 s) := hm.c 14 _ rfl
      have fc14 : w6.frozen? ⟨p, 14, none⟩ = false := hm.f 14
      have cc15 : w6.cell? ⟨p, 15, none⟩ = some (.int .i64 g) := hm.c 15 _ rfl
      have fc15 : w6.frozen? ⟨p, 15, none⟩ = false := hm.f 15
      clear hm hb6 HM5 HB5 HSn cb14 cb15 fb14 fb15
      go_wp2_with fail
      refine (rbad_both _ p ph lf fi true hh f.1 f.2.1 f.2.2.1 ⟨f.2.2.2.toArray⟩ T ((k : Int) + 1) ar q tk S g ⟨4, f, 70⟩ ⟨f.2.2.2.toArray⟩ rfl ((HM6.out.set 14 _).set 15 _)).mono ?_
      rintro e w7 ⟨sl, cap, rfl, h1, h2, h3, h4⟩
      have hs : w.heap.size ≤ w6.heap.size := HB6.out.2.2.2.1
      have HE : Hid (EvAt w.heap.size w7 sl cap (badE S ⟨4, f, 70⟩) ∧ (∀ b o, sl = some ⟨b, o, none⟩ → w.heap.size ≤ b) ∧ But p w w7 ∧ MRow w7 p (mcs (phI (badP S)) 6 fi false (badH S hh) f.1 f.2.1 f.2.2.1 ⟨f.2.2.2.toArray⟩ T ((k : Int) + 1) ar q tk S g)) :=
        ⟨h1.base (by simp; exact hs), (fun b o e => by have := h2 b o e; simp at this; omega), (HB6.out.set1.set1).trans h3, h4⟩
      clear h1 h2 h3 h4 HM6 HB6
      go_wp2
      go_ret
      exact ⟨_, _, rfl, HE.out.1, HE.out.2.1, HE.out.2.2.1, _, HE.out.2.2.2⟩
  · rcases hE with ⟨hA, _, rfl⟩ | ⟨_, e, _⟩
    · skip
      replace HIx : ∀ W, (Instr.index 9 (.string T) (.int .i64 (k : Int))).run Tryz.prog W = .ok (.int .u8 49) W := HIx
      have hAp : ((k : Int) + 1 = (L : Int) - 8) := by omega
      have hA' : ((k : Int) + 1 == (L : Int) - 8) = true := beq_iff_eq.2 hAp
      clear hn hA hAp
      go_enter Tryz.func46, Tryz.ntmps46
      go_wp2_with fail
      refine Lw.wp_region_quiet_below (by kernel_rfl) (by kernel_rfl) ?_
      repeat (first
        | go_big_quiet_skip
        | (go_big_quiet_want; go_big_quiet_op; go_big_quiet_on)
        | (go_big_quiet_want; go_big_quiet_op; apply Exists.intro; refine ⟨fun _ hb' => ?_, ?_⟩; (first
          | exact Lw.val_rfl _
          | (simp [go_sem, (HC.out _ hb').1]; rfl)
          | (simp [go_sem, (HC.out _ hb').2]; rfl)
          | (simp [go_sem, HIx]; rfl)); go_big_quiet_on))
      refine wpQuiet_nil ?_
      intro w2 hb2
      have hm := HM.out.on hb2
      have HM2 : Hid (MRow w2 p _) := hm
      have HB2 : Hid (But p w w2) := But.of_below hb2
      have ca10 : w2.cell? ⟨p, 10, none⟩ = some (.int .i64 k) := hm.c 10 _ rfl
      have fa10 : w2.frozen? ⟨p, 10, none⟩ = false := hm.f 10
      clear hm hb2 HC HIx
      go_wp2_with fail
      have HM3 : Hid (MRow (w2.setCell ⟨p, 10, none⟩ (.int .i64 ((k : Int) + 1))) p (mcs ph lf fi true hh f.1 f.2.1 f.2.2.1 ⟨f.2.2.2.toArray⟩ T ((k : Int) + 1) ar q tk s g)) := HM2.out.set 10 _
      have HB3 : Hid (But p w (w2.setCell ⟨p, 10, none⟩ (.int .i64 ((k : Int) + 1)))) := HB2.out.set1
      clear HM2 HB2 ca10 fa10
      generalize w2.setCell ⟨p, 10, none⟩ (.int .i64 ((k : Int) + 1)) = w3 at HM3 HB3 ⊢
      have HC3 : Hid (∀ w', Below w3.heap.size w3 w' → w'.cell? ⟨p, 10, none⟩ = some (.int .i64 ((k : Int) + 1)) ∧ w'.cell? ⟨p, 11, none⟩ = some (.int .i64 (ar : Int))) := fun w' hb => ⟨(HM3.out.on hb).c 10 _ rfl, (HM3.out.on hb).c 11 _ rfl⟩
      refine Lw.wp_region_quiet_below (by kernel_rfl) (by kernel_rfl) ?_
      repeat (first
        | go_big_quiet_skip
        | (go_big_quiet_want; go_big_quiet_op; go_big_quiet_on)
        | (go_big_quiet_want; go_big_quiet_op; apply Exists.intro; refine ⟨fun _ hb' => ?_, ?_⟩; (first
          | exact Lw.val_rfl _
          | (simp [go_sem, (HC3.out _ hb').1]; rfl)
          | (simp [go_sem, (HC3.out _ hb').2]; rfl)); go_big_quiet_on))
      refine wpQuiet_nil ?_
      intro w4 hb4
      have HM4 : Hid (MRow w4 p _) := HM3.out.on hb4
      have HB4 : Hid (But p w w4) := HB3.out.join hb4
      clear hb4 HM3 HB3 HC3
      go_wp2_with fail
      have HC4 : Hid (∀ w', Below w4.heap.size w4 w' → w'.cell? ⟨p, 10, none⟩ = some (.int .i64 ((k : Int) + 1)) ∧ w'.cell? ⟨p, 9, none⟩ = some (.string T)) := fun w' hb => ⟨(HM4.out.on hb).c 10 _ rfl, (HM4.out.on hb).c 9 _ rfl⟩
      refine Lw.wp_region_quiet_below (by kernel_rfl) (by kernel_rfl) ?_
      repeat (first
        | go_big_quiet_skip
        | (go_big_quiet_want; go_big_quiet_op; go_big_quiet_on)
        | (go_big_quiet_want; go_big_quiet_op; apply Exists.intro; refine ⟨fun _ hb' => ?_, ?_⟩; (first
          | exact Lw.val_rfl _
          | (simp [go_sem, (HC4.out _ hb').1]; rfl)
          | (simp [go_sem, (HC4.out _ hb').2]; rfl)); go_big_quiet_on))
      refine wpQuiet_nil ?_
      intro w5 hb5
      have hm := HM4.out.on hb5
      have HM5 : Hid (MRow w5 p _) := hm
      have HB5 : Hid (But p w w5) := HB4.out.join hb5
      have cb14 : w5.cell? ⟨p, 14, none⟩ = some (.int .i64 s) := hm.c 14 _ rfl
      have fb14 : w5.frozen? ⟨p, 14, none⟩ = false := hm.f 14
      have cb15 : w5.cell? ⟨p, 15, none⟩ = some (.int .i64 g) := hm.c 15 _ rfl
      have fb15 : w5.frozen? ⟨p, 15, none⟩ = false := hm.f 15
      clear hm hb5 HM4 HB4 HC4
      go_wp2_with fail
      refine (HSn.out _).mono ?_
      rintro e w6 ⟨rfl, hb6⟩
      have hm := HM5.out.on hb6
      have HM6 : Hid (MRow w6 p _) := hm
      have HB6 : Hid (But p w w6) := HB5.out.join hb6
      have cc5 : w6.cell? ⟨p, 5, none⟩ = some (.bool f.1) := hm.c 5 _ rfl
      have fc5 : w6.frozen? ⟨p, 5, none⟩ = false := hm.f 5
      have cc6 : w6.cell? ⟨p, 6, none⟩ = some (.int .u32 f.2.1) := hm.c 6 _ rfl
      have fc6 : w6.frozen? ⟨p, 6, none⟩ = false := hm.f 6
      have cc7 : w6.cell? ⟨p, 7, none⟩ = some (.bool f.2.2.1) := hm.c 7 _ rfl
      have fc7 : w6.frozen? ⟨p, 7, none⟩ = false := hm.f 7
      have cc8 : w6.cell? ⟨p, 8, none⟩ = some (.string ⟨f.2.2.2.toArray⟩) := hm.c 8 _ rfl
      have fc8 : w6.frozen? ⟨p, 8, none⟩ = false := hm.f 8
      have cc14 : w6.cell? ⟨p, 14, none⟩ = some (.int .i64 s) := hm.c 14 _ rfl
      have fc14 : w6.frozen? ⟨p, 14, none⟩ = false := hm.f 14
      have cc15 : w6.cell? ⟨p, 15, none⟩ = some (.int .i64 g) := hm.c 15 _ rfl
      have fc15 : w6.frozen? ⟨p, 15, none⟩ = false := hm.f 15
      clear hm hb6 HM5 HB5 HSn cb14 cb15 fb14 fb15
      go_wp2_with fail
      refine (rbad_both _ p ph lf fi true hh f.1 f.2.1 f.2.2.1 ⟨f.2.2.2.toArray⟩ T ((k : Int) + 1) ar q tk S g ⟨4, f, 71⟩ ⟨f.2.2.2.toArray⟩ rfl ((HM6.out.set 14 _).set 15 _)).mono ?_
      rintro e w7 ⟨sl, cap, rfl, h1, h2, h3, h4⟩
      have hs : w.heap.size ≤ w6.heap.size := HB6.out.2.2.2.1
      have HE : Hid (EvAt w.heap.size w7 sl cap (badE S ⟨4, f, 71⟩) ∧ (∀ b o, sl = some ⟨b, o, none⟩ → w.heap.size ≤ b) ∧ But p w w7 ∧ MRow w7 p (mcs (phI (badP S)) 6 fi false (badH S hh) f.1 f.2.1 f.2.2.1 ⟨f.2.2.2.toArray⟩ T ((k : Int) + 1) ar q tk S g)) :=
        ⟨h1.base (by simp; exact hs), (fun b o e => by have := h2 b o e; simp at this; omega), (HB6.out.set1.set1).trans h3, h4⟩
      clear h1 h2 h3 h4 HM6 HB6
      go_wp2
      go_ret
      exact ⟨_, _, rfl, HE.out.1, HE.out.2.1, HE.out.2.2.1, _, HE.out.2.2.2⟩
    · exact absurd rfl e
end Go.Proofs.YthkaekpoicodeaaGreatDoor
