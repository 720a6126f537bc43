/- The document's own node on the wire: hearing, over its text: a bit that is right. -/
import Derived.Test.YthappkhiiopfgaaGreatDoorN7
namespace Go.Proofs.YthappkhiiopfgaaGreatDoor
open Go.RowKit
set_option linter.unusedVariables false
/-- A reader that was given these bits. -/
def RdAt (w : World) (q : Nat) (bs : List Bool) : Prop := ∃ S R, w.heap[q]? = some (.cells (rdc S (Mm.feed bs) R) 66 (0, 0)) ∧ Inv (Mm.feed bs) R S.size ∧ S.size = bs.length
theorem RdAt.on {w w' : World} {q : Nat} {bs : List Bool} (h : RdAt w q bs) (hb : w'.heap[q]? = w.heap[q]?) : RdAt w' q bs := by
  obtain ⟨S, R, e1, e2⟩ := h
  exact ⟨S, R, hb.trans e1, e2⟩
theorem RdAt.lt {w : World} {q : Nat} {bs : List Bool} (h : RdAt w q bs) : q < w.heap.size := by
  obtain ⟨S, R, e1, e2⟩ := h
  exact (Array.getElem?_eq_some_iff.1 e1).1
/-- The reader's next bit, where it tells nothing. -/
theorem next_good (w : World) (q : Nat) (bs : List Bool) (c : Bool) (hl : bs.length < 1000) (hc : Mm.code bs c = 0) (h : RdAt w q bs) :
    Calls Tryz.prog 58 #[bptr q, .int .u8 ((Bm.sign c).toNat : Int)] w fun e w' => e = .returned (.int .i64 0) ∧ RdAt w' q (bs ++ [c]) ∧ But q w w' := by
  obtain ⟨S, R, e1, e2, e3⟩ := h
  refine (next_bit q S (by omega) (Mm.feed bs) R (Bm.sign c) w e2 e1).mono ?_
  rintro e w2 ⟨rfl, h2, h3⟩
  rw [Bm.isOne_sign] at h2 ⊢
  have hc' : (Cm.bit (Mm.feed bs) c).1 = 0 := hc
  rw [hc'] at h2 ⊢
  obtain ⟨R', h4, h5⟩ := h2 (Nat.zero_le _)
  refine ⟨rfl, ⟨S ++ ByteArray.mk #[Bm.sign c], R', ?_, ?_, ?_⟩, h3⟩
  · rw [Mm.feed_snoc]; exact h4
  · rw [Mm.feed_snoc, ByteArray.size_append]; exact h5 rfl
  · rw [ByteArray.size_append, e3, List.length_append]; rfl
theorem tail_at (w : World) (q : Nat) (bs : List Bool) (h : RdAt w q bs) : Calls Tryz.prog 27 #[bptr q] w fun e w' => e = .returned (.int .i64 (tailI (Mm.feed bs).t)) ∧ Below w.heap.size w w' := by
  obtain ⟨S, R, e1, e2, e3⟩ := h
  exact rtail_any w q _ _ _ _ _ _ _ _ _ e1
theorem tailI_nine {t : Option Nat} : (tailI t == 9) = decide (t = some 9) := by
  rw [Bool.eq_iff_iff]
  cases t with
  | none => simp [tailI]
  | some k =>
    simp [tailI]
    omega
set_option maxRecDepth 100000 in
set_option maxHeartbeats 2000000 in
theorem rhear3_any (w : World) (p : Nat) (ph lf : Int) (fi sd hh x : Bool) (n : Int) (r : Bool) (d out : ByteArray) (at_ ar : Int) (q : Nat) (s g : Int) (bs : List Bool) (c : Bool) (hpq : p ≠ q) (hr : RdAt w q bs) (hl : bs.length < 1000)
    (hc : Mm.code bs c = 0) (ht9 : (Mm.feed (bs ++ [c])).t ≠ some 9) (h : MRow w p (mcs ph lf fi sd hh x n r d out at_ ar q false s g)) :
    Calls Tryz.prog 40 #[bptr p, .bool c] w fun e w' => e = .returned (.slice none 0 0) ∧ But q w w' ∧ RdAt w' q (bs ++ [c]) ∧ MRow w' p (mcs ph lf fi sd hh x n r d out at_ ar q false s g) := by
  have HM : Hid (MRow w p (mcs ph lf fi sd hh x n r d out at_ ar q false s g)) := h
  have HN : Hid (∀ w1, RdAt w1 q bs → Calls Tryz.prog 58 #[bptr q, .int .u8 ((Bm.sign c).toNat : Int)] w1 fun e w' => e = .returned (.int .i64 0) ∧ RdAt w' q (bs ++ [c]) ∧ But q w1 w') := fun w1 h1 => next_good w1 q bs c hl hc h1
  have c12 : w.cell? ⟨p, 12, none⟩ = some (.pointer (some ⟨q, 0, none⟩)) := h.c 12 _ rfl
  have f12 : w.frozen? ⟨p, 12, none⟩ = false := h.f 12
  have c13 : w.cell? ⟨p, 13, none⟩ = some (.bool false) := h.c 13 _ rfl
  have f13 : w.frozen? ⟨p, 13, none⟩ = false := h.f 13
  have HG : Hid (∀ w, Calls Tryz.prog 66 #[.agg #[.int .i64 s, .int .i64 g], .bool true] w fun e w' => e = .returned (.agg #[.int .i64 s, .int .i64 (Km.gotG s g true)]) ∧ Below w.heap.size w w') := fun w => rgot_any s g true w
  have HR : Hid (RdAt w q bs) := hr
  clear h hr hc hl
  generalize Km.gotG s g true = G at *
  have HT : Hid (∀ w1, RdAt w1 q (bs ++ [c]) → Calls Tryz.prog 27 #[bptr q] w1 fun e w' => e = .returned (.int .i64 (tailI (Mm.feed (bs ++ [c])).t)) ∧ Below w1.heap.size w1 w') := fun w1 h1 => tail_at w1 q _ h1
  have ht := tailI_nine (t := (Mm.feed (bs ++ [c])).t)
  rw [decide_eq_false ht9] at ht
  clear ht9
  generalize tailI (Mm.feed (bs ++ [c])).t = TT at *
  go_enter Tryz.func40, Tryz.ntmps40
  go_wp2_with fail
  go_cut [5] from 12 (fun v wx => v = .int .i64 0 ∧ Hid (RdAt wx q (bs ++ [c])) ∧ Hid (MRow wx p (mcs ph lf fi sd hh x n r d out at_ ar q false s g)) ∧ Hid (But q w wx))
  case first =>
    go_region_with (first | (go_at_call 64; refine (refBit_any _ _).mono ?_; rintro e w' ⟨rfl, rfl⟩) | (go_at_call 58; refine (HN.out _ (by exact HR.out)).mono ?_; rintro e w2 ⟨rfl, hrd2, hb2⟩; have HR2 : Hid (RdAt w2 q (bs ++ [c])) := hrd2; have HM2 : Hid (MRow w2 p (mcs ph lf fi sd hh x n r d out at_ ar q false s g)) := HM.out.drewN hb2 hpq; have HB2 : Hid (But q w w2) := (drew_but rfl).trans hb2; clear hb2 hrd2))
    all_goals
      go_wp2_with fail
      go_meet
      case rel => exact ⟨rfl, HR2, HM2, HB2⟩
  case rest =>
    obtain ⟨rfl, HRc, HMc, HBc⟩ := hcut
    have hm := HMc.out
    have cc12 : wc.cell? ⟨p, 12, none⟩ = some (.pointer (some ⟨q, 0, none⟩)) := hm.c 12 _ rfl
    have fc12 : wc.frozen? ⟨p, 12, none⟩ = false := hm.f 12
    have cc13 : wc.cell? ⟨p, 13, none⟩ = some (.bool false) := hm.c 13 _ rfl
    have fc13 : wc.frozen? ⟨p, 13, none⟩ = false := hm.f 13
    have cc14 : wc.cell? ⟨p, 14, none⟩ = some (.int .i64 s) := hm.c 14 _ rfl
    have fc14 : wc.frozen? ⟨p, 14, none⟩ = false := hm.f 14
    have cc15 : wc.cell? ⟨p, 15, none⟩ = some (.int .i64 g) := hm.c 15 _ rfl
    have fc15 : wc.frozen? ⟨p, 15, none⟩ = false := hm.f 15
    clear hm HM HR HN c12 c13 f12 f13
    go_wp2_with fail
    refine (HT.out _ HRc.out).mono ?_
    rintro e w3 ⟨rfl, hb3⟩
    have HE : Hid (But q w w3 ∧ RdAt w3 q (bs ++ [c]) ∧ MRow w3 p (mcs ph lf fi sd hh x n r d out at_ ar q false s g)) := ⟨HBc.out.join hb3, HRc.out.on (hb3.block q HRc.out.lt), HMc.out.on hb3⟩
    clear HMc HBc HRc hb3 cc12 cc13 cc14 cc15 fc12 fc13 fc14 fc15
    go_wp2
    go_ret
    exact ⟨rfl, HE.out⟩
set_option maxRecDepth 100000 in
set_option maxHeartbeats 2000000 in
theorem rhear2_any (w : World) (p : Nat) (ph lf : Int) (fi sd hh x : Bool) (n : Int) (r : Bool) (d out : ByteArray) (at_ ar : Int) (q : Nat) (s g : Int) (bs : List Bool) (c : Bool) (hpq : p ≠ q) (hr : RdAt w q bs) (hl : bs.length < 1000)
    (hc : Mm.code bs c = 0) (ht9 : (Mm.feed (bs ++ [c])).t = some 9) (h : MRow w p (mcs ph lf fi sd hh x n r d out at_ ar q false s g)) :
    Calls Tryz.prog 40 #[bptr p, .bool c] w fun e w' => ∃ sl cap, e = .returned (.slice sl 1 cap) ∧ EvAt w.heap.size w' sl cap [⟨2, (Mm.feed (bs ++ [c])).frame, 0⟩] ∧ (∀ b o, sl = some ⟨b, o, none⟩ → w.heap.size ≤ b) ∧ Kept (fun j => j = p ∨ j = q) w w' ∧ RdAt w' q (bs ++ [c]) ∧
      MRow w' p (mcs ph lf fi sd hh x n r d out at_ ar q true s (Km.gotG s g true)) := by
  have HM : Hid (MRow w p (mcs ph lf fi sd hh x n r d out at_ ar q false s g)) := h
  have HN : Hid (∀ w1, RdAt w1 q bs → Calls Tryz.prog 58 #[bptr q, .int .u8 ((Bm.sign c).toNat : Int)] w1 fun e w' => e = .returned (.int .i64 0) ∧ RdAt w' q (bs ++ [c]) ∧ But q w1 w') := fun w1 h1 => next_good w1 q bs c hl hc h1
  have c12 : w.cell? ⟨p, 12, none⟩ = some (.pointer (some ⟨q, 0, none⟩)) := h.c 12 _ rfl
  have f12 : w.frozen? ⟨p, 12, none⟩ = false := h.f 12
  have c13 : w.cell? ⟨p, 13, none⟩ = some (.bool false) := h.c 13 _ rfl
  have f13 : w.frozen? ⟨p, 13, none⟩ = false := h.f 13
  have HG : Hid (∀ w, Calls Tryz.prog 66 #[.agg #[.int .i64 s, .int .i64 g], .bool true] w fun e w' => e = .returned (.agg #[.int .i64 s, .int .i64 (Km.gotG s g true)]) ∧ Below w.heap.size w w') := fun w => rgot_any s g true w
  have HR : Hid (RdAt w q bs) := hr
  clear h hr hc hl
  generalize Km.gotG s g true = G at *
  have HT : Hid (∀ w1, RdAt w1 q (bs ++ [c]) → Calls Tryz.prog 27 #[bptr q] w1 fun e w' => e = .returned (.int .i64 (tailI (Mm.feed (bs ++ [c])).t)) ∧ Below w1.heap.size w1 w') := fun w1 h1 => tail_at w1 q _ h1
  have ht := tailI_nine (t := (Mm.feed (bs ++ [c])).t)
  rw [decide_eq_true ht9] at ht
  rw [ht9] at HT
  clear ht9 ht
  have HF : Hid (∀ w1, RdAt w1 q (bs ++ [c]) → (w1.cell? ⟨q, 5, none⟩ = some (.bool (Mm.feed (bs ++ [c])).frame.1) ∧ w1.cell? ⟨q, 6, none⟩ = some (.int .u32 ((Mm.feed (bs ++ [c])).frame.2.1 : Int)) ∧ w1.cell? ⟨q, 7, none⟩ = some (.bool (Mm.feed (bs ++ [c])).frame.2.2.1) ∧ w1.cell? ⟨q, 8, none⟩ = some (.string ⟨(Mm.feed (bs ++ [c])).frame.2.2.2.toArray⟩))) := fun w1 h1 => by
    obtain ⟨S, R, e1, e2⟩ := h1
    have hff : (Mm.feed (bs ++ [c])).frame = frI (Mm.feed (bs ++ [c])).w := by unfold Cm.Rd.frame frI; rfl
    rw [hff]
    exact ⟨nine_cells e1 5 _ rfl, nine_cells e1 6 _ rfl, nine_cells e1 7 _ rfl, nine_cells e1 8 _ rfl⟩
  obtain ⟨F, hF⟩ : ∃ F, (Mm.feed (bs ++ [c])).frame = F := ⟨_, rfl⟩
  rw [hF] at HF ⊢
  clear hF
  go_enter Tryz.func40, Tryz.ntmps40
  go_wp2_with fail
  go_cut [5] from 12 (fun v wx => v = .int .i64 0 ∧ Hid (RdAt wx q (bs ++ [c])) ∧ Hid (MRow wx p (mcs ph lf fi sd hh x n r d out at_ ar q false s g)) ∧ Hid (But q w wx))
  case first =>
    go_region_with (first | (go_at_call 64; refine (refBit_any _ _).mono ?_; rintro e w' ⟨rfl, rfl⟩) | (go_at_call 58; refine (HN.out _ (by exact HR.out)).mono ?_; rintro e w2 ⟨rfl, hrd2, hb2⟩; have HR2 : Hid (RdAt w2 q (bs ++ [c])) := hrd2; have HM2 : Hid (MRow w2 p (mcs ph lf fi sd hh x n r d out at_ ar q false s g)) := HM.out.drewN hb2 hpq; have HB2 : Hid (But q w w2) := (drew_but rfl).trans hb2; clear hb2 hrd2))
    all_goals
      go_wp2_with fail
      go_meet
      case rel => exact ⟨rfl, HR2, HM2, HB2⟩
  case rest =>
    obtain ⟨rfl, HRc, HMc, HBc⟩ := hcut
    have hm := HMc.out
    have cc12 : wc.cell? ⟨p, 12, none⟩ = some (.pointer (some ⟨q, 0, none⟩)) := hm.c 12 _ rfl
    have fc12 : wc.frozen? ⟨p, 12, none⟩ = false := hm.f 12
    have cc13 : wc.cell? ⟨p, 13, none⟩ = some (.bool false) := hm.c 13 _ rfl
    have fc13 : wc.frozen? ⟨p, 13, none⟩ = false := hm.f 13
    have cc14 : wc.cell? ⟨p, 14, none⟩ = some (.int .i64 s) := hm.c 14 _ rfl
    have fc14 : wc.frozen? ⟨p, 14, none⟩ = false := hm.f 14
    have cc15 : wc.cell? ⟨p, 15, none⟩ = some (.int .i64 g) := hm.c 15 _ rfl
    have fc15 : wc.frozen? ⟨p, 15, none⟩ = false := hm.f 15
    clear hm HM HR HN c12 c13 f12 f13
    go_wp2_with fail
    refine (HT.out _ HRc.out).mono ?_
    rintro e w3 ⟨rfl, hb3⟩
    have hm : MRow w3 p (mcs ph lf fi sd hh x n r d out at_ ar q false s g) := HMc.out.on hb3
    have HM3 : Hid (MRow w3 p (mcs ph lf fi sd hh x n r d out at_ ar q false s g)) := hm
    have HB3 : Hid (But q w w3) := HBc.out.join hb3
    have HR3 : Hid (RdAt w3 q (bs ++ [c])) := HRc.out.on (hb3.block q HRc.out.lt)
    have cd12 : w3.cell? ⟨p, 12, none⟩ = some (.pointer (some ⟨q, 0, none⟩)) := hm.c 12 _ rfl
    have fd12 : w3.frozen? ⟨p, 12, none⟩ = false := hm.f 12
    have cd13 : w3.cell? ⟨p, 13, none⟩ = some (.bool false) := hm.c 13 _ rfl
    have fd13 : w3.frozen? ⟨p, 13, none⟩ = false := hm.f 13
    have cd14 : w3.cell? ⟨p, 14, none⟩ = some (.int .i64 s) := hm.c 14 _ rfl
    have fd14 : w3.frozen? ⟨p, 14, none⟩ = false := hm.f 14
    have cd15 : w3.cell? ⟨p, 15, none⟩ = some (.int .i64 g) := hm.c 15 _ rfl
    have fd15 : w3.frozen? ⟨p, 15, none⟩ = false := hm.f 15
    clear HMc HBc HRc hb3 cc12 cc13 cc14 cc15 fc12 fc13 fc14 fc15 hm
    go_wp2_with fail
    refine (HG.out _).mono ?_
    rintro e w4 ⟨rfl, hb4⟩
    have hm : MRow w4 p (mcs ph lf fi sd hh x n r d out at_ ar q true s g) := (HM3.out.set 13 _).on hb4
    have HM4 : Hid (MRow w4 p (mcs ph lf fi sd hh x n r d out at_ ar q true s g)) := hm
    have HP4 : Hid (But p w3 w4) := ((But.refl p w3).set1).join hb4
    have hqp : ¬ q = p := fun e => hpq e.symm
    have HR4 : Hid (RdAt w4 q (bs ++ [c])) := HR3.out.on (HP4.out.2.2.2.2 q HR3.out.lt hqp)
    have ce12 : w4.cell? ⟨p, 12, none⟩ = some (.pointer (some ⟨q, 0, none⟩)) := hm.c 12 _ rfl
    have fe12 : w4.frozen? ⟨p, 12, none⟩ = false := hm.f 12
    have ce13 : w4.cell? ⟨p, 13, none⟩ = some (.bool true) := hm.c 13 _ rfl
    have fe13 : w4.frozen? ⟨p, 13, none⟩ = false := hm.f 13
    have ce14 : w4.cell? ⟨p, 14, none⟩ = some (.int .i64 s) := hm.c 14 _ rfl
    have fe14 : w4.frozen? ⟨p, 14, none⟩ = false := hm.f 14
    have ce15 : w4.cell? ⟨p, 15, none⟩ = some (.int .i64 g) := hm.c 15 _ rfl
    have fe15 : w4.frozen? ⟨p, 15, none⟩ = false := hm.f 15
    obtain ⟨q5, q6, q7, q8⟩ := HF.out w4 HR4.out
    clear HM3 hb4 cd12 cd13 cd14 cd15 fd12 fd13 fd14 fd15 hm HG HT HF
    go_wp2
    go_ret
    have ez : ((w4.setCell ⟨p, 14, none⟩ (.int .i64 s)).setCell ⟨p, 15, none⟩ (.int .i64 G)).heap.size = w4.heap.size := by simp
    have hs : w.heap.size ≤ w4.heap.size := Nat.le_trans HB3.out.2.2.2.1 HP4.out.2.2.2.1
    have hb5 := (Below.refl _ ((w4.setCell ⟨p, 14, none⟩ (.int .i64 s)).setCell ⟨p, 15, none⟩ (.int .i64 G))).alloc (Nat.le_refl _) (.cells #[.int .i64 2, .bool F.1, .int .u32 (F.2.1 : Int), .bool F.2.2.1, .string ⟨F.2.2.2.toArray⟩, .int .i64 0] 49)
    have hp5 := ((But.refl p w4).set1 (k := 14) (v := .int .i64 s)).set1 (k := 15) (v := .int .i64 G)
    have E := EvAt.one (B := w.heap.size) (v := ⟨2, F, 0⟩) (heap_alloc_new ((w4.setCell ⟨p, 14, none⟩ (.int .i64 s)).setCell ⟨p, 15, none⟩ (.int .i64 G)) (.cells #[.int .i64 2, .bool F.1, .int .u32 (F.2.1 : Int), .bool F.2.2.1, .string ⟨F.2.2.2.toArray⟩, .int .i64 0] 49)) (by rw [ez]; exact hs)
    rw [ez] at E
    refine ⟨_, _, rfl, E, (fun b o e => by injection e with e; injection e with e; omega), kept2 HB3.out (HP4.out.trans (hp5.join hb5)), HR4.out.on ((hp5.join hb5).2.2.2.2 q HR4.out.lt hqp), ((HM4.out.set 14 _).set 15 _).on hb5⟩
end Go.Proofs.YthappkhiiopfgaaGreatDoor
