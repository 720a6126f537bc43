/- The document's own node on the wire: hearing, over its text. -/
import Derived.Test.YthkaekpoicodeaaGreatDoorUb
import Derived.Deep.Cut
namespace Go.Proofs.YthkaekpoicodeaaGreatDoor
open Go.RowKit
set_option linter.unusedVariables false
def badE (s : Int) (v : Mm.Ev) : List Mm.Ev := if Km.offC s then [v, ⟨7, Cm.noF, 0⟩] else [v]
def badP (s : Int) : Mm.Ph := if Km.offC s then .off else .flag
def badH (s : Int) (hh : Bool) : Bool := if Km.offC s then false else hh
theorem rbad_both (w : World) (p : Nat) (ph lf : Int) (fi sd hh x : Bool) (n : Int) (r : Bool) (d out : ByteArray) (at_ ar : Int) (q : Nat) (tk : Bool) (s g : Int) (v : Mm.Ev) (D : ByteArray) (hD : D = ⟨v.f.2.2.2.toArray⟩) (h : MRow w p (mcs ph lf fi sd hh x n r d out at_ ar q tk s g)) :
    Calls Tryz.prog 72 #[bptr p, evA v D] w fun e w' => ∃ sl cap, e = .returned (.slice sl (badE s v).length cap) ∧ EvAt w.heap.size w' sl cap (badE s v) ∧ (∀ b o, sl = some ⟨b, o, none⟩ → w.heap.size ≤ b) ∧ But p w w' ∧ MRow w' p (mcs (phI (badP s)) 6 fi false (badH s hh) x n r d out at_ ar q tk s g) := by
  unfold badE badP badH
  cases ho : Km.offC s
  · exact rbad_any w p ph lf fi sd hh x n r d out at_ ar q tk s g v D hD ho h
  · exact rbadoff_any w p ph lf fi sd hh x n r d out at_ ar q tk s g v D hD ho h
theorem kept2 {p q : Nat} {a b c : World} (h : But q a b) (k : But p b c) : Kept (fun j => j = p ∨ j = q) a c :=
  ⟨k.1.trans h.1, k.2.1.trans h.2.1, k.2.2.1.trans h.2.2.1, Nat.le_trans h.2.2.2.1 k.2.2.2.1, fun j hj hn => (k.2.2.2.2 j (Nat.lt_of_lt_of_le hj h.2.2.2.1) (fun e => hn (Or.inl e))).trans (h.2.2.2.2 j hj (fun e => hn (Or.inr e)))⟩
theorem MRow.drewN {w w2 : World} {p q : Nat} {cs : Array Value} (h : MRow w p cs) (hb : But q w.drew w2) (hn : p ≠ q) : MRow w2 p cs := (show MRow w.drew p cs from h).but hb hn
set_option maxRecDepth 100000 in
set_option maxHeartbeats 2000000 in
theorem rhear0_any (w : World) (p : Nat) (ph lf : Int) (fi sd hh x : Bool) (n : Int) (r : Bool) (d out : ByteArray) (at_ ar : Int) (q : Nat) (s g : Int) (c : Bool) (h : MRow w p (mcs ph lf fi sd hh x n r d out at_ ar q true s g)) :
    Calls Tryz.prog 47 #[bptr p, .bool c] w fun e w' => e = .returned (.slice none 0 0) ∧ But p w w' ∧ MRow w' p (mcs 4 3 fi sd hh x n r d out at_ ar q true s g) := by
  have HM : Hid (MRow w p (mcs ph lf fi sd hh x n r d out at_ ar q true s g)) := h
  have c13 : w.cell? ⟨p, 13, none⟩ = some (.bool true) := h.c 13 _ rfl
  have f13 : w.frozen? ⟨p, 13, none⟩ = false := h.f 13
  clear h
  go_enter Tryz.func47, Tryz.ntmps47
  go_wp2_with fail
  refine (rpause_any w p ph lf fi sd hh x n r d out at_ ar q true s g HM.out).mono ?_
  rintro e w1 ⟨rfl, h1, h2⟩
  have HE : Hid (But p w w1 ∧ MRow w1 p (mcs 4 3 fi sd hh x n r d out at_ ar q true s g)) := ⟨h2, h1⟩
  clear h1 h2 c13 f13
  go_wp2
  go_ret
  exact ⟨rfl, HE.out⟩
set_option maxRecDepth 100000 in
set_option maxHeartbeats 2000000 in
theorem rhear1_any (w : World) (p : Nat) (ph lf : Int) (fi sd hh x : Bool) (n : Int) (r : Bool) (d out : ByteArray) (at_ ar : Int) (q : Nat) (s g : Int) (bs : List Bool) (c : Bool) (hpq : p ≠ q) (S : ByteArray) (R : List Bool) (hr : w.heap[q]? = some (.cells (rdc S (Mm.feed bs) R) 89 (0, 0))) (hI : Inv (Mm.feed bs) R S.size) (hS : S.size = bs.length) (hl : bs.length < 1000)
    (hc : Mm.code bs c ≠ 0) (h : MRow w p (mcs ph lf fi sd hh x n r d out at_ ar q false s g)) :
    Calls Tryz.prog 47 #[bptr p, .bool c] w fun e w' => ∃ sl cap, e = .returned (.slice sl (badE s ⟨5, Cm.noF, Mm.code bs c⟩).length cap) ∧ EvAt w.heap.size w' sl cap (badE s ⟨5, Cm.noF, Mm.code bs c⟩) ∧ (∀ b o, sl = some ⟨b, o, none⟩ → w.heap.size ≤ b) ∧ Kept (fun j => j = p ∨ j = q) w w' ∧
      MRow w' p (mcs (phI (badP s)) 6 fi false (badH s hh) x n r d out at_ ar q false s (Km.gotG s g false)) := by
  have HM : Hid (MRow w p (mcs ph lf fi sd hh x n r d out at_ ar q false s g)) := h
  have HN : Hid (∀ w1, w1.heap[q]? = some (.cells (rdc S (Mm.feed bs) R) 89 (0, 0)) → Calls Tryz.prog 67 #[bptr q, .int .u8 ((Bm.sign c).toNat : Int)] w1 fun e w' => e = .returned (.int .i64 (Mm.code bs c : Int)) ∧ But q w1 w') := fun w1 h1 => by
    refine (next_bit q S (by omega) (Mm.feed bs) R (Bm.sign c) w1 hI h1).mono ?_
    rintro e w2 ⟨rfl, h2, h3⟩
    rw [Bm.isOne_sign]
    exact ⟨rfl, h3⟩
  have c12 : w.cell? ⟨p, 12, none⟩ = some (.pointer (some ⟨q, 0, none⟩)) := h.c 12 _ rfl
  have f12 : w.frozen? ⟨p, 12, none⟩ = false := h.f 12
  have c13 : w.cell? ⟨p, 13, none⟩ = some (.bool false) := h.c 13 _ rfl
  have f13 : w.frozen? ⟨p, 13, none⟩ = false := h.f 13
  clear h hI
  have HG : Hid (∀ w, Calls Tryz.prog 75 #[.agg #[.int .i64 s, .int .i64 g], .bool false] w fun e w' => e = .returned (.agg #[.int .i64 s, .int .i64 (Km.gotG s g false)]) ∧ Below w.heap.size w w') := fun w => rgot_any s g false w
  have HR : Hid (w.heap[q]? = some (.cells (rdc S (Mm.feed bs) R) 89 (0, 0))) := hr
  clear hr
  generalize Mm.code bs c = CO at *
  generalize Km.gotG s g false = G at *
  go_enter Tryz.func47, Tryz.ntmps47
  go_wp2_with fail
  go_cut [5] from 12 (fun v wx => v = .int .i64 (CO : Int) ∧ Hid (MRow wx p (mcs ph lf fi sd hh x n r d out at_ ar q false s g)) ∧ Hid (But q w wx))
  case first =>
    go_region_with (first | (go_at_call 73; refine (refBit_any _ _).mono ?_; rintro e w' ⟨rfl, rfl⟩) | (go_at_call 67; refine (HN.out _ (by exact HR.out)).mono ?_; rintro e w2 ⟨rfl, hb2⟩; have HM2 : Hid (MRow w2 p (mcs ph lf fi sd hh x n r d out at_ ar q false s g)) := HM.out.drewN hb2 hpq; have HB2 : Hid (But q w w2) := (drew_but rfl).trans hb2; clear hb2))
    all_goals
      go_wp2_with fail
      go_meet
      case rel => exact ⟨rfl, HM2, HB2⟩
  case rest =>
    obtain ⟨rfl, HMc, HBc⟩ := hcut
    have hm := HMc.out
    have cc14 : wc.cell? ⟨p, 14, none⟩ = some (.int .i64 s) := hm.c 14 _ rfl
    have fc14 : wc.frozen? ⟨p, 14, none⟩ = false := hm.f 14
    have cc15 : wc.cell? ⟨p, 15, none⟩ = some (.int .i64 g) := hm.c 15 _ rfl
    have fc15 : wc.frozen? ⟨p, 15, none⟩ = false := hm.f 15
    clear hm
    have hco : ((CO : Int) != 0) = true := by simp; exact hc
    go_wp2_with fail
    refine (HG.out _).mono ?_
    rintro e w3 ⟨rfl, hb3⟩
    have hm : MRow w3 p (mcs ph lf fi sd hh x n r d out at_ ar q false s g) := HMc.out.on hb3
    have HM3 : Hid (MRow w3 p (mcs ph lf fi sd hh x n r d out at_ ar q false s g)) := hm
    have HB3 : Hid (But q w w3) := HBc.out.join hb3
    have cd14 : w3.cell? ⟨p, 14, none⟩ = some (.int .i64 s) := hm.c 14 _ rfl
    have fd14 : w3.frozen? ⟨p, 14, none⟩ = false := hm.f 14
    have cd15 : w3.cell? ⟨p, 15, none⟩ = some (.int .i64 g) := hm.c 15 _ rfl
    have fd15 : w3.frozen? ⟨p, 15, none⟩ = false := hm.f 15
    clear hm HMc HBc hb3 cc14 cc15 fc14 fc15 HM HR HN c12 c13 f12 f13
    go_wp2_with fail
    refine (rbad_both _ p ph lf fi sd hh x n r d out at_ ar q false s G ⟨5, Cm.noF, CO⟩ ⟨#[]⟩ rfl ((HM3.out.set 14 _).set 15 _)).mono ?_
    rintro e w4 ⟨sl, cap, rfl, h1, h2, h3, h4⟩
    have hs : w.heap.size ≤ w3.heap.size := HB3.out.2.2.2.1
    have HE : Hid (EvAt w.heap.size w4 sl cap (badE s ⟨5, Cm.noF, CO⟩) ∧ (∀ b o, sl = some ⟨b, o, none⟩ → w.heap.size ≤ b) ∧ Kept (fun j => j = p ∨ j = q) w w4 ∧ MRow w4 p (mcs (phI (badP s)) 6 fi false (badH s hh) x n r d out at_ ar q false s G)) :=
      ⟨h1.base (by simp; exact hs), (fun b o e => by have := h2 b o e; simp at this; omega), kept2 HB3.out (((But.refl p w3).set1.set1).trans h3), h4⟩
    clear h1 h2 h3 h4 HM3 HB3
    go_wp2
    go_ret
    exact ⟨_, _, rfl, HE.out⟩
end Go.Proofs.YthkaekpoicodeaaGreatDoor
/- The document's own node on the wire: hearing, over its text: a bit that is right. -/
namespace Go.Proofs.YthkaekpoicodeaaGreatDoor
open Go.RowKit
set_option linter.unusedVariables false
/-- A reader that was given these bits. -/
def RdAt (w : World) (q : Nat) (bs : List Bool) : Prop := ∃ S R, w.heap[q]? = some (.cells (rdc S (Mm.feed bs) R) 89 (0, 0)) ∧ Inv (Mm.feed bs) R S.size ∧ S.size = bs.length
theorem RdAt.on {w w' : World} {q : Nat} {bs : List Bool} (h : RdAt w q bs) (hb : w'.heap[q]? = w.heap[q]?) : RdAt w' q bs := by
  obtain ⟨S, R, e1, e2⟩ := h
  exact ⟨S, R, hb.trans e1, e2⟩
theorem RdAt.lt {w : World} {q : Nat} {bs : List Bool} (h : RdAt w q bs) : q < w.heap.size := by
  obtain ⟨S, R, e1, e2⟩ := h
  exact (Array.getElem?_eq_some_iff.1 e1).1
/-- The reader's next bit, where it tells nothing. -/
theorem next_good (w : World) (q : Nat) (bs : List Bool) (c : Bool) (hl : bs.length < 1000) (hc : Mm.code bs c = 0) (h : RdAt w q bs) :
    Calls Tryz.prog 67 #[bptr q, .int .u8 ((Bm.sign c).toNat : Int)] w fun e w' => e = .returned (.int .i64 0) ∧ RdAt w' q (bs ++ [c]) ∧ But q w w' := by
  obtain ⟨S, R, e1, e2, e3⟩ := h
  refine (next_bit q S (by omega) (Mm.feed bs) R (Bm.sign c) w e2 e1).mono ?_
  rintro e w2 ⟨rfl, h2, h3⟩
  rw [Bm.isOne_sign] at h2 ⊢
  have hc' : (Cm.bit (Mm.feed bs) c).1 = 0 := hc
  rw [hc'] at h2 ⊢
  obtain ⟨R', h4, h5⟩ := h2 (Nat.zero_le _)
  refine ⟨rfl, ⟨S ++ ByteArray.mk #[Bm.sign c], R', ?_, ?_, ?_⟩, h3⟩
  · rw [Mm.feed_snoc]; exact h4
  · rw [Mm.feed_snoc, ByteArray.size_append]; exact h5 rfl
  · rw [ByteArray.size_append, e3, List.length_append]; rfl
theorem tail_at (w : World) (q : Nat) (bs : List Bool) (h : RdAt w q bs) : Calls Tryz.prog 42 #[bptr q] w fun e w' => e = .returned (.int .i64 (tailI (Mm.feed bs).t)) ∧ Below w.heap.size w w' := by
  obtain ⟨S, R, e1, e2, e3⟩ := h
  exact rtail_any w q _ _ _ _ _ _ _ _ _ e1
theorem tailI_nine {t : Option Nat} : (tailI t == 9) = decide (t = some 9) := by
  rw [Bool.eq_iff_iff]
  cases t with
  | none => simp [tailI]
  | some k =>
    simp [tailI]
    omega
set_option maxRecDepth 100000 in
set_option maxHeartbeats 2000000 in
theorem rhear3_any (w : World) (p : Nat) (ph lf : Int) (fi sd hh x : Bool) (n : Int) (r : Bool) (d out : ByteArray) (at_ ar : Int) (q : Nat) (s g : Int) (bs : List Bool) (c : Bool) (hpq : p ≠ q) (hr : RdAt w q bs) (hl : bs.length < 1000)
    (hc : Mm.code bs c = 0) (ht9 : (Mm.feed (bs ++ [c])).t ≠ some 9) (h : MRow w p (mcs ph lf fi sd hh x n r d out at_ ar q false s g)) :
    Calls Tryz.prog 47 #[bptr p, .bool c] w fun e w' => e = .returned (.slice none 0 0) ∧ But q w w' ∧ RdAt w' q (bs ++ [c]) ∧ MRow w' p (mcs ph lf fi sd hh x n r d out at_ ar q false s g) := by
  have HM : Hid (MRow w p (mcs ph lf fi sd hh x n r d out at_ ar q false s g)) := h
  have HN : Hid (∀ w1, RdAt w1 q bs → Calls Tryz.prog 67 #[bptr q, .int .u8 ((Bm.sign c).toNat : Int)] w1 fun e w' => e = .returned (.int .i64 0) ∧ RdAt w' q (bs ++ [c]) ∧ But q w1 w') := fun w1 h1 => next_good w1 q bs c hl hc h1
  have c12 : w.cell? ⟨p, 12, none⟩ = some (.pointer (some ⟨q, 0, none⟩)) := h.c 12 _ rfl
  have f12 : w.frozen? ⟨p, 12, none⟩ = false := h.f 12
  have c13 : w.cell? ⟨p, 13, none⟩ = some (.bool false) := h.c 13 _ rfl
  have f13 : w.frozen? ⟨p, 13, none⟩ = false := h.f 13
  have HG : Hid (∀ w, Calls Tryz.prog 75 #[.agg #[.int .i64 s, .int .i64 g], .bool true] w fun e w' => e = .returned (.agg #[.int .i64 s, .int .i64 (Km.gotG s g true)]) ∧ Below w.heap.size w w') := fun w => rgot_any s g true w
  have HR : Hid (RdAt w q bs) := hr
  clear h hr hc hl
  generalize Km.gotG s g true = G at *
  have HT : Hid (∀ w1, RdAt w1 q (bs ++ [c]) → Calls Tryz.prog 42 #[bptr q] w1 fun e w' => e = .returned (.int .i64 (tailI (Mm.feed (bs ++ [c])).t)) ∧ Below w1.heap.size w1 w') := fun w1 h1 => tail_at w1 q _ h1
  have ht := tailI_nine (t := (Mm.feed (bs ++ [c])).t)
  rw [decide_eq_false ht9] at ht
  clear ht9
  generalize tailI (Mm.feed (bs ++ [c])).t = TT at *
  go_enter Tryz.func47, Tryz.ntmps47
  go_wp2_with fail
  go_cut [5] from 12 (fun v wx => v = .int .i64 0 ∧ Hid (RdAt wx q (bs ++ [c])) ∧ Hid (MRow wx p (mcs ph lf fi sd hh x n r d out at_ ar q false s g)) ∧ Hid (But q w wx))
  case first =>
    go_region_with (first | (go_at_call 73; refine (refBit_any _ _).mono ?_; rintro e w' ⟨rfl, rfl⟩) | (go_at_call 67; refine (HN.out _ (by exact HR.out)).mono ?_; rintro e w2 ⟨rfl, hrd2, hb2⟩; have HR2 : Hid (RdAt w2 q (bs ++ [c])) := hrd2; have HM2 : Hid (MRow w2 p (mcs ph lf fi sd hh x n r d out at_ ar q false s g)) := HM.out.drewN hb2 hpq; have HB2 : Hid (But q w w2) := (drew_but rfl).trans hb2; clear hb2 hrd2))
    all_goals
      go_wp2_with fail
      go_meet
      case rel => exact ⟨rfl, HR2, HM2, HB2⟩
  case rest =>
    obtain ⟨rfl, HRc, HMc, HBc⟩ := hcut
    have hm := HMc.out
    have cc12 : wc.cell? ⟨p, 12, none⟩ = some (.pointer (some ⟨q, 0, none⟩)) := hm.c 12 _ rfl
    have fc12 : wc.frozen? ⟨p, 12, none⟩ = false := hm.f 12
    have cc13 : wc.cell? ⟨p, 13, none⟩ = some (.bool false) := hm.c 13 _ rfl
    have fc13 : wc.frozen? ⟨p, 13, none⟩ = false := hm.f 13
    have cc14 : wc.cell? ⟨p, 14, none⟩ = some (.int .i64 s) := hm.c 14 _ rfl
    have fc14 : wc.frozen? ⟨p, 14, none⟩ = false := hm.f 14
    have cc15 : wc.cell? ⟨p, 15, none⟩ = some (.int .i64 g) := hm.c 15 _ rfl
    have fc15 : wc.frozen? ⟨p, 15, none⟩ = false := hm.f 15
    clear hm HM HR HN c12 c13 f12 f13
    go_wp2_with fail
    refine (HT.out _ HRc.out).mono ?_
    rintro e w3 ⟨rfl, hb3⟩
    have HE : Hid (But q w w3 ∧ RdAt w3 q (bs ++ [c]) ∧ MRow w3 p (mcs ph lf fi sd hh x n r d out at_ ar q false s g)) := ⟨HBc.out.join hb3, HRc.out.on (hb3.block q HRc.out.lt), HMc.out.on hb3⟩
    clear HMc HBc HRc hb3 cc12 cc13 cc14 cc15 fc12 fc13 fc14 fc15
    go_wp2
    go_ret
    exact ⟨rfl, HE.out⟩
set_option maxRecDepth 100000 in
set_option maxHeartbeats 2000000 in
theorem rhear2_any (w : World) (p : Nat) (ph lf : Int) (fi sd hh x : Bool) (n : Int) (r : Bool) (d out : ByteArray) (at_ ar : Int) (q : Nat) (s g : Int) (bs : List Bool) (c : Bool) (hpq : p ≠ q) (hr : RdAt w q bs) (hl : bs.length < 1000)
    (hc : Mm.code bs c = 0) (ht9 : (Mm.feed (bs ++ [c])).t = some 9) (h : MRow w p (mcs ph lf fi sd hh x n r d out at_ ar q false s g)) :
    Calls Tryz.prog 47 #[bptr p, .bool c] w fun e w' => ∃ sl cap, e = .returned (.slice sl 1 cap) ∧ EvAt w.heap.size w' sl cap [⟨2, (Mm.feed (bs ++ [c])).frame, 0⟩] ∧ (∀ b o, sl = some ⟨b, o, none⟩ → w.heap.size ≤ b) ∧ Kept (fun j => j = p ∨ j = q) w w' ∧ RdAt w' q (bs ++ [c]) ∧
      MRow w' p (mcs ph lf fi sd hh x n r d out at_ ar q true s (Km.gotG s g true)) := by
  have HM : Hid (MRow w p (mcs ph lf fi sd hh x n r d out at_ ar q false s g)) := h
  have HN : Hid (∀ w1, RdAt w1 q bs → Calls Tryz.prog 67 #[bptr q, .int .u8 ((Bm.sign c).toNat : Int)] w1 fun e w' => e = .returned (.int .i64 0) ∧ RdAt w' q (bs ++ [c]) ∧ But q w1 w') := fun w1 h1 => next_good w1 q bs c hl hc h1
  have c12 : w.cell? ⟨p, 12, none⟩ = some (.pointer (some ⟨q, 0, none⟩)) := h.c 12 _ rfl
  have f12 : w.frozen? ⟨p, 12, none⟩ = false := h.f 12
  have c13 : w.cell? ⟨p, 13, none⟩ = some (.bool false) := h.c 13 _ rfl
  have f13 : w.frozen? ⟨p, 13, none⟩ = false := h.f 13
  have HG : Hid (∀ w, Calls Tryz.prog 75 #[.agg #[.int .i64 s, .int .i64 g], .bool true] w fun e w' => e = .returned (.agg #[.int .i64 s, .int .i64 (Km.gotG s g true)]) ∧ Below w.heap.size w w') := fun w => rgot_any s g true w
  have HR : Hid (RdAt w q bs) := hr
  clear h hr hc hl
  generalize Km.gotG s g true = G at *
  have HT : Hid (∀ w1, RdAt w1 q (bs ++ [c]) → Calls Tryz.prog 42 #[bptr q] w1 fun e w' => e = .returned (.int .i64 (tailI (Mm.feed (bs ++ [c])).t)) ∧ Below w1.heap.size w1 w') := fun w1 h1 => tail_at w1 q _ h1
  have ht := tailI_nine (t := (Mm.feed (bs ++ [c])).t)
  rw [decide_eq_true ht9] at ht
  rw [ht9] at HT
  clear ht9 ht
  have HF : Hid (∀ w1, RdAt w1 q (bs ++ [c]) → (w1.cell? ⟨q, 5, none⟩ = some (.bool (Mm.feed (bs ++ [c])).frame.1) ∧ w1.cell? ⟨q, 6, none⟩ = some (.int .u32 ((Mm.feed (bs ++ [c])).frame.2.1 : Int)) ∧ w1.cell? ⟨q, 7, none⟩ = some (.bool (Mm.feed (bs ++ [c])).frame.2.2.1) ∧ w1.cell? ⟨q, 8, none⟩ = some (.string ⟨(Mm.feed (bs ++ [c])).frame.2.2.2.toArray⟩))) := fun w1 h1 => by
    obtain ⟨S, R, e1, e2⟩ := h1
    have hff : (Mm.feed (bs ++ [c])).frame = frI (Mm.feed (bs ++ [c])).w := by unfold Cm.Rd.frame frI; rfl
    rw [hff]
    exact ⟨nine_cells e1 5 _ rfl, nine_cells e1 6 _ rfl, nine_cells e1 7 _ rfl, nine_cells e1 8 _ rfl⟩
  obtain ⟨F, hF⟩ : ∃ F, (Mm.feed (bs ++ [c])).frame = F := ⟨_, rfl⟩
  rw [hF] at HF ⊢
  clear hF
  go_enter Tryz.func47, Tryz.ntmps47
  go_wp2_with fail
  go_cut [5] from 12 (fun v wx => v = .int .i64 0 ∧ Hid (RdAt wx q (bs ++ [c])) ∧ Hid (MRow wx p (mcs ph lf fi sd hh x n r d out at_ ar q false s g)) ∧ Hid (But q w wx))
  case first =>
    go_region_with (first | (go_at_call 73; refine (refBit_any _ _).mono ?_; rintro e w' ⟨rfl, rfl⟩) | (go_at_call 67; refine (HN.out _ (by exact HR.out)).mono ?_; rintro e w2 ⟨rfl, hrd2, hb2⟩; have HR2 : Hid (RdAt w2 q (bs ++ [c])) := hrd2; have HM2 : Hid (MRow w2 p (mcs ph lf fi sd hh x n r d out at_ ar q false s g)) := HM.out.drewN hb2 hpq; have HB2 : Hid (But q w w2) := (drew_but rfl).trans hb2; clear hb2 hrd2))
    all_goals
      go_wp2_with fail
      go_meet
      case rel => exact ⟨rfl, HR2, HM2, HB2⟩
  case rest =>
    obtain ⟨rfl, HRc, HMc, HBc⟩ := hcut
    have hm := HMc.out
    have cc12 : wc.cell? ⟨p, 12, none⟩ = some (.pointer (some ⟨q, 0, none⟩)) := hm.c 12 _ rfl
    have fc12 : wc.frozen? ⟨p, 12, none⟩ = false := hm.f 12
    have cc13 : wc.cell? ⟨p, 13, none⟩ = some (.bool false) := hm.c 13 _ rfl
    have fc13 : wc.frozen? ⟨p, 13, none⟩ = false := hm.f 13
    have cc14 : wc.cell? ⟨p, 14, none⟩ = some (.int .i64 s) := hm.c 14 _ rfl
    have fc14 : wc.frozen? ⟨p, 14, none⟩ = false := hm.f 14
    have cc15 : wc.cell? ⟨p, 15, none⟩ = some (.int .i64 g) := hm.c 15 _ rfl
    have fc15 : wc.frozen? ⟨p, 15, none⟩ = false := hm.f 15
    clear hm HM HR HN c12 c13 f12 f13
    go_wp2_with fail
    refine (HT.out _ HRc.out).mono ?_
    rintro e w3 ⟨rfl, hb3⟩
    have hm : MRow w3 p (mcs ph lf fi sd hh x n r d out at_ ar q false s g) := HMc.out.on hb3
    have HM3 : Hid (MRow w3 p (mcs ph lf fi sd hh x n r d out at_ ar q false s g)) := hm
    have HB3 : Hid (But q w w3) := HBc.out.join hb3
    have HR3 : Hid (RdAt w3 q (bs ++ [c])) := HRc.out.on (hb3.block q HRc.out.lt)
    have cd12 : w3.cell? ⟨p, 12, none⟩ = some (.pointer (some ⟨q, 0, none⟩)) := hm.c 12 _ rfl
    have fd12 : w3.frozen? ⟨p, 12, none⟩ = false := hm.f 12
    have cd13 : w3.cell? ⟨p, 13, none⟩ = some (.bool false) := hm.c 13 _ rfl
    have fd13 : w3.frozen? ⟨p, 13, none⟩ = false := hm.f 13
    have cd14 : w3.cell? ⟨p, 14, none⟩ = some (.int .i64 s) := hm.c 14 _ rfl
    have fd14 : w3.frozen? ⟨p, 14, none⟩ = false := hm.f 14
    have cd15 : w3.cell? ⟨p, 15, none⟩ = some (.int .i64 g) := hm.c 15 _ rfl
    have fd15 : w3.frozen? ⟨p, 15, none⟩ = false := hm.f 15
    clear HMc HBc HRc hb3 cc12 cc13 cc14 cc15 fc12 fc13 fc14 fc15 hm
    go_wp2_with fail
    refine (HG.out _).mono ?_
    rintro e w4 ⟨rfl, hb4⟩
    have hm : MRow w4 p (mcs ph lf fi sd hh x n r d out at_ ar q true s g) := (HM3.out.set 13 _).on hb4
    have HM4 : Hid (MRow w4 p (mcs ph lf fi sd hh x n r d out at_ ar q true s g)) := hm
    have HP4 : Hid (But p w3 w4) := ((But.refl p w3).set1).join hb4
    have hqp : ¬ q = p := fun e => hpq e.symm
    have HR4 : Hid (RdAt w4 q (bs ++ [c])) := HR3.out.on (HP4.out.2.2.2.2 q HR3.out.lt hqp)
    have ce12 : w4.cell? ⟨p, 12, none⟩ = some (.pointer (some ⟨q, 0, none⟩)) := hm.c 12 _ rfl
    have fe12 : w4.frozen? ⟨p, 12, none⟩ = false := hm.f 12
    have ce13 : w4.cell? ⟨p, 13, none⟩ = some (.bool true) := hm.c 13 _ rfl
    have fe13 : w4.frozen? ⟨p, 13, none⟩ = false := hm.f 13
    have ce14 : w4.cell? ⟨p, 14, none⟩ = some (.int .i64 s) := hm.c 14 _ rfl
    have fe14 : w4.frozen? ⟨p, 14, none⟩ = false := hm.f 14
    have ce15 : w4.cell? ⟨p, 15, none⟩ = some (.int .i64 g) := hm.c 15 _ rfl
    have fe15 : w4.frozen? ⟨p, 15, none⟩ = false := hm.f 15
    obtain ⟨q5, q6, q7, q8⟩ := HF.out w4 HR4.out
    clear HM3 hb4 cd12 cd13 cd14 cd15 fd12 fd13 fd14 fd15 hm HG HT HF
    go_wp2
    go_ret
    have ez : ((w4.setCell ⟨p, 14, none⟩ (.int .i64 s)).setCell ⟨p, 15, none⟩ (.int .i64 G)).heap.size = w4.heap.size := by simp
    have hs : w.heap.size ≤ w4.heap.size := Nat.le_trans HB3.out.2.2.2.1 HP4.out.2.2.2.1
    have hb5 := (Below.refl _ ((w4.setCell ⟨p, 14, none⟩ (.int .i64 s)).setCell ⟨p, 15, none⟩ (.int .i64 G))).alloc (Nat.le_refl _) (.cells #[.int .i64 2, .bool F.1, .int .u32 (F.2.1 : Int), .bool F.2.2.1, .string ⟨F.2.2.2.toArray⟩, .int .i64 0] 60)
    have hp5 := ((But.refl p w4).set1 (k := 14) (v := .int .i64 s)).set1 (k := 15) (v := .int .i64 G)
    have E := EvAt.one (B := w.heap.size) (v := ⟨2, F, 0⟩) (heap_alloc_new ((w4.setCell ⟨p, 14, none⟩ (.int .i64 s)).setCell ⟨p, 15, none⟩ (.int .i64 G)) (.cells #[.int .i64 2, .bool F.1, .int .u32 (F.2.1 : Int), .bool F.2.2.1, .string ⟨F.2.2.2.toArray⟩, .int .i64 0] 60)) (by rw [ez]; exact hs)
    rw [ez] at E
    refine ⟨_, _, rfl, E, (fun b o e => by injection e with e; injection e with e; omega), kept2 HB3.out (HP4.out.trans (hp5.join hb5)), HR4.out.on ((hp5.join hb5).2.2.2.2 q HR4.out.lt hqp), ((HM4.out.set 14 _).set 15 _).on hb5⟩
end Go.Proofs.YthkaekpoicodeaaGreatDoor
/- The document's own node on the wire: Sample, outside of a frame, over its text. -/
namespace Go.Proofs.YthkaekpoicodeaaGreatDoor
open Go.RowKit
set_option linter.unusedVariables false
set_option maxRecDepth 100000 in
set_option maxHeartbeats 2000000 in
theorem rsampOff_any (w : World) (p : Nat) (lf : Int) (fi sd hh x : Bool) (n : Int) (r : Bool) (d out : ByteArray) (at_ ar : Int) (q : Nat) (tk : Bool) (s g : Int) (c : UInt8) (h : MRow w p (mcs 5 lf fi sd hh x n r d out at_ ar q tk s g)) :
    Calls Tryz.prog 31 #[bptr p, .int .u8 (c.toNat : Int)] w fun e w' => e = .returned (.slice none 0 0) ∧ But p w w' ∧ MRow w' p (mcs 5 lf fi sd hh x n r d out at_ ar q tk s g) := by
  have HM : Hid (MRow w p (mcs 5 lf fi sd hh x n r d out at_ ar q tk s g)) := h
  have c0 : w.cell? ⟨p, 0, none⟩ = some (.int .i64 5) := h.c 0 _ rfl
  have f0 : w.frozen? ⟨p, 0, none⟩ = false := h.f 0
  clear h
  go_enter Tryz.func31, Tryz.ntmps31
  go_wp2
  go_ret
  exact ⟨rfl, But.refl _ _, HM.out⟩
set_option maxRecDepth 100000 in
set_option maxHeartbeats 2000000 in
theorem rsampFlag_any (w : World) (p : Nat) (l : Nat) (hl : l < 1000) (fi sd hh x : Bool) (n : Int) (r : Bool) (d out : ByteArray) (at_ ar : Int) (q : Nat) (tk : Bool) (s g : Int) (c : UInt8) (h : MRow w p (mcs 2 ((l + 1 : Nat) : Int) fi sd hh x n r d out at_ ar q tk s g)) :
    Calls Tryz.prog 31 #[bptr p, .int .u8 (c.toNat : Int)] w fun e w' => e = .returned (.slice none 0 0) ∧ But p w w' ∧ (l = 0 → MRow w' p (mcs 3 7 true sd hh x n r d out at_ ar q tk s g)) ∧ (l ≠ 0 → MRow w' p (mcs 2 l fi sd hh x n r d out at_ ar q tk s g)) := by
  have HM : Hid (MRow w p (mcs 2 ((l + 1 : Nat) : Int) fi sd hh x n r d out at_ ar q tk s g)) := h
  have c0 : w.cell? ⟨p, 0, none⟩ = some (.int .i64 2) := h.c 0 _ rfl
  have f0 : w.frozen? ⟨p, 0, none⟩ = false := h.f 0
  have c1 : w.cell? ⟨p, 1, none⟩ = some (.int .i64 ((l + 1 : Nat) : Int)) := h.c 1 _ rfl
  have f1 : w.frozen? ⟨p, 1, none⟩ = false := h.f 1
  have c2 : w.cell? ⟨p, 2, none⟩ = some (.bool fi) := h.c 2 _ rfl
  have f2 : w.frozen? ⟨p, 2, none⟩ = false := h.f 2
  clear h
  by_cases h0 : l = 0
  · subst h0
    go_enter Tryz.func31, Tryz.ntmps31
    go_wp2
    go_ret
    exact ⟨rfl, (But.refl p w).set1.set1.set1.set1, (fun _ => (((HM.out.set 1 _).set 0 _).set 1 _).set 2 _), fun e => absurd rfl e⟩
  · go_enter Tryz.func31, Tryz.ntmps31
    go_wp2
    go_ret
    exact ⟨rfl, (But.refl p w).set1, (fun e => absurd e h0), fun _ => HM.out.set 1 _⟩
theorem one_of (c : UInt8) : ((c.toNat : Int) != 48) = (c != 48) := by
  show (!_) = (!_)
  congr 1
  rw [Bool.eq_iff_iff]
  simp only [beq_iff_eq]
  constructor
  · intro h
    apply UInt8.toNat_inj.1
    exact Int.ofNat.inj h
  · intro h; subst h; rfl
set_option maxRecDepth 100000 in
set_option maxHeartbeats 2000000 in
theorem rsampReco_any (w : World) (p : Nat) (lf : Nat) (hl : 1 ≤ lf ∧ lf ≤ 7) (fi sd hh x : Bool) (n : Int) (r : Bool) (d out : ByteArray) (at_ ar : Int) (q : Nat) (tk : Bool) (s g : Int) (c : UInt8) (h : MRow w p (mcs 3 lf fi sd hh x n r d out at_ ar q tk s g)) :
    Calls Tryz.prog 31 #[bptr p, .int .u8 (c.toNat : Int)] w fun e w' => e = .returned (.slice none 0 0) ∧ But p w w' ∧
      MRow w' p (if fi then mcs 3 lf (!(c != 48)) sd hh x n r d out at_ ar q tk s g else if (c != 48) = false then mcs 3 7 fi sd hh x n r d out at_ ar q tk s g else if lf = 1 then mcs 4 3 fi sd hh x n r d out at_ ar q tk s g else mcs 3 ((lf : Int) - 1) fi sd hh x n r d out at_ ar q tk s g) := by
  have HC : Hid (∀ _ : Unit, Calls Tryz.prog 48 #[bptr p, .bool (c != 48)] w fun e w' => e = .returned (.tuple #[]) ∧ But p w w' ∧ MRow w' p (if fi then mcs 3 lf (!(c != 48)) sd hh x n r d out at_ ar q tk s g else if (c != 48) = false then mcs 3 7 fi sd hh x n r d out at_ ar q tk s g else if lf = 1 then mcs 4 3 fi sd hh x n r d out at_ ar q tk s g else mcs 3 ((lf : Int) - 1) fi sd hh x n r d out at_ ar q tk s g)) := fun _ => rrecover_any w p 3 lf hl fi sd hh x n r d out at_ ar q tk s g (c != 48) h
  have h48 := one_of c
  have c0 : w.cell? ⟨p, 0, none⟩ = some (.int .i64 3) := h.c 0 _ rfl
  have f0 : w.frozen? ⟨p, 0, none⟩ = false := h.f 0
  clear h
  generalize (if fi then mcs 3 lf (!(c != 48)) sd hh x n r d out at_ ar q tk s g else if (c != 48) = false then mcs 3 7 fi sd hh x n r d out at_ ar q tk s g else if lf = 1 then mcs 4 3 fi sd hh x n r d out at_ ar q tk s g else mcs 3 ((lf : Int) - 1) fi sd hh x n r d out at_ ar q tk s g) = CS at *
  go_enter Tryz.func31, Tryz.ntmps31
  go_wp2_with fail
  refine (HC.out ()).mono ?_
  rintro e w1 ⟨rfl, h1, h2⟩
  have HE : Hid (But p w w1 ∧ MRow w1 p CS) := ⟨h1, h2⟩
  clear h1 h2 HC c0 f0 h48
  go_wp2
  go_ret
  exact ⟨rfl, HE.out⟩
set_option maxRecDepth 100000 in
set_option maxHeartbeats 2000000 in
theorem rsampPause1_any (w : World) (p : Nat) (l : Nat) (hl : l < 1000) (fi sd hh x : Bool) (n : Int) (r : Bool) (d out : ByteArray) (at_ ar : Int) (q : Nat) (tk : Bool) (s g : Int) (c : UInt8) (hc : (c != 48) = true) (h : MRow w p (mcs 4 ((l + 1 : Nat) : Int) fi sd hh x n r d out at_ ar q tk s g)) :
    Calls Tryz.prog 31 #[bptr p, .int .u8 (c.toNat : Int)] w fun e w' => e = .returned (.slice none 0 0) ∧ But p w w' ∧ (l = 0 → MRow w' p (mcs 0 0 fi sd hh x n r d out at_ ar q tk s g)) ∧ (l ≠ 0 → MRow w' p (mcs 4 l fi sd hh x n r d out at_ ar q tk s g)) := by
  have HM : Hid (MRow w p (mcs 4 ((l + 1 : Nat) : Int) fi sd hh x n r d out at_ ar q tk s g)) := h
  have h48 := (one_of c).trans hc
  have c0 : w.cell? ⟨p, 0, none⟩ = some (.int .i64 4) := h.c 0 _ rfl
  have f0 : w.frozen? ⟨p, 0, none⟩ = false := h.f 0
  have c1 : w.cell? ⟨p, 1, none⟩ = some (.int .i64 ((l + 1 : Nat) : Int)) := h.c 1 _ rfl
  have f1 : w.frozen? ⟨p, 1, none⟩ = false := h.f 1
  clear h
  by_cases h0 : l = 0
  · subst h0
    go_enter Tryz.func31, Tryz.ntmps31
    go_wp2
    go_ret
    exact ⟨rfl, (But.refl p w).set1.set1, (fun _ => (HM.out.set 1 _).set 0 _), fun e => absurd rfl e⟩
  · go_enter Tryz.func31, Tryz.ntmps31
    go_wp2
    go_ret
    exact ⟨rfl, (But.refl p w).set1, (fun e => absurd e h0), fun _ => HM.out.set 1 _⟩
set_option maxRecDepth 100000 in
set_option maxHeartbeats 2000000 in
theorem rsampPause0_any (w : World) (p : Nat) (lf : Int) (fi sd hh x : Bool) (n : Int) (r : Bool) (d out : ByteArray) (at_ ar : Int) (q : Nat) (tk : Bool) (s g : Int) (c : UInt8) (hc : (c != 48) = false) (h : MRow w p (mcs 4 lf fi sd hh x n r d out at_ ar q tk s g)) :
    Calls Tryz.prog 31 #[bptr p, .int .u8 (c.toNat : Int)] w fun e w' => ∃ sl cap q', e = .returned (.slice sl 1 cap) ∧ EvAt w.heap.size w' sl cap [⟨6, Cm.noF, 0⟩] ∧ w.heap.size ≤ q' ∧ q' < w'.heap.size ∧
      (∃ S R, w'.heap[q']? = some (.cells (rdc S (Mm.feed [false]) R) 89 (0, 0)) ∧ Inv (Mm.feed [false]) R S.size ∧ S.size = 1) ∧ But p w w' ∧ MRow w' p (mcs 1 lf fi false hh x n r d out at_ ar q' false s g) := by
  have HC : Hid (∀ _ : Unit, _) := fun _ : Unit => rbegin0_any w p 4 lf fi sd hh x n r d out at_ ar q tk s g h
  have h48 := (one_of c).trans hc
  have c0 : w.cell? ⟨p, 0, none⟩ = some (.int .i64 4) := h.c 0 _ rfl
  have f0 : w.frozen? ⟨p, 0, none⟩ = false := h.f 0
  clear h
  go_enter Tryz.func31, Tryz.ntmps31
  go_wp2_with fail
  refine (HC.out ()).mono ?_
  rintro e w1 ⟨sl, cap, q', rfl, h1⟩
  have HE : Hid (_) := h1
  clear h1 HC c0 f0 h48
  go_wp2
  go_ret
  exact ⟨_, _, _, rfl, HE.out⟩
set_option maxRecDepth 100000 in
set_option maxHeartbeats 2000000 in
theorem rsampIdle1_any (w : World) (p : Nat) (lf : Int) (fi sd hh x : Bool) (n : Int) (r : Bool) (d out : ByteArray) (at_ ar : Int) (q : Nat) (tk : Bool) (s g : Int) (c : UInt8) (hc : (c != 48) = true) (h : MRow w p (mcs 0 lf fi sd hh x n r d out at_ ar q tk s g)) :
    Calls Tryz.prog 31 #[bptr p, .int .u8 (c.toNat : Int)] w fun e w' => e = .returned (.slice none 0 0) ∧ But p w w' ∧ MRow w' p (mcs 0 lf fi sd hh x n r d out at_ ar q tk s g) := by
  have HM : Hid (MRow w p (mcs 0 lf fi sd hh x n r d out at_ ar q tk s g)) := h
  have h48 := (one_of c).trans hc
  have c0 : w.cell? ⟨p, 0, none⟩ = some (.int .i64 0) := h.c 0 _ rfl
  have f0 : w.frozen? ⟨p, 0, none⟩ = false := h.f 0
  clear h
  go_enter Tryz.func31, Tryz.ntmps31
  go_wp2
  go_ret
  exact ⟨rfl, But.refl _ _, HM.out⟩
set_option maxRecDepth 100000 in
set_option maxHeartbeats 2000000 in
theorem rsampIdle0_any (w : World) (p : Nat) (lf : Int) (fi sd x : Bool) (n : Int) (r : Bool) (d out : ByteArray) (at_ ar : Int) (q : Nat) (tk : Bool) (s g : Int) (c : UInt8) (hc : (c != 48) = false) (h : MRow w p (mcs 0 lf fi sd false x n r d out at_ ar q tk s g)) :
    Calls Tryz.prog 31 #[bptr p, .int .u8 (c.toNat : Int)] w fun e w' => ∃ sl cap q', e = .returned (.slice sl 1 cap) ∧ EvAt w.heap.size w' sl cap [⟨6, Cm.noF, 0⟩] ∧ w.heap.size ≤ q' ∧ q' < w'.heap.size ∧
      (∃ S R, w'.heap[q']? = some (.cells (rdc S (Mm.feed [false]) R) 89 (0, 0)) ∧ Inv (Mm.feed [false]) R S.size ∧ S.size = 1) ∧ But p w w' ∧ MRow w' p (mcs 1 lf fi false false x n r d out at_ ar q' false s g) := by
  have HC : Hid (∀ _ : Unit, _) := fun _ : Unit => rbegin0_any w p 0 lf fi sd false x n r d out at_ ar q tk s g h
  have h48 := (one_of c).trans hc
  have c0 : w.cell? ⟨p, 0, none⟩ = some (.int .i64 0) := h.c 0 _ rfl
  have f0 : w.frozen? ⟨p, 0, none⟩ = false := h.f 0
  have c4 : w.cell? ⟨p, 4, none⟩ = some (.bool false) := h.c 4 _ rfl
  have f4 : w.frozen? ⟨p, 4, none⟩ = false := h.f 4
  clear h
  go_enter Tryz.func31, Tryz.ntmps31
  go_wp2_with fail
  refine (HC.out ()).mono ?_
  rintro e w1 ⟨sl, cap, q', rfl, h1⟩
  have HE : Hid (_) := h1
  clear h1 HC c0 f0 c4 f4 h48
  go_wp2
  go_ret
  exact ⟨_, _, _, rfl, HE.out⟩
set_option maxRecDepth 100000 in
set_option maxHeartbeats 2000000 in
theorem rsampIdle2_any (w : World) (p : Nat) (lf : Int) (fi sd : Bool) (f : Cm.Fr) (hF : Mm.isFr f = true) (out : ByteArray) (at_ ar : Int) (q : Nat) (tk : Bool) (s g : Int) (c : UInt8) (hc : (c != 48) = false) (h : MRow w p (mcs 0 lf fi sd true f.1 f.2.1 f.2.2.1 ⟨f.2.2.2.toArray⟩ out at_ ar q tk s g)) :
    Calls Tryz.prog 31 #[bptr p, .int .u8 (c.toNat : Int)] w fun e w' => ∃ sl cap q', e = .returned (.slice sl 1 cap) ∧ EvAt w.heap.size w' sl cap [⟨6, Cm.noF, 0⟩] ∧ w.heap.size ≤ q' ∧ q' < w'.heap.size ∧
      (∃ S R, w'.heap[q']? = some (.cells (rdc S (Mm.feed [false]) R) 89 (0, 0)) ∧ Inv (Mm.feed [false]) R S.size ∧ S.size = 1) ∧ But p w w' ∧ MRow w' p (mcs 1 lf fi true false f.1 f.2.1 f.2.2.1 ⟨f.2.2.2.toArray⟩ ⟨(Bm.row (Mm.outB f)).toArray⟩ 1 (Mm.arbL f) q' false s g) := by
  have HC : Hid (∀ _ : Unit, _) := fun _ : Unit => rbegin1_any w p 0 lf fi sd true f hF out at_ ar q tk s g h
  have h48 := (one_of c).trans hc
  have c0 : w.cell? ⟨p, 0, none⟩ = some (.int .i64 0) := h.c 0 _ rfl
  have f0 : w.frozen? ⟨p, 0, none⟩ = false := h.f 0
  have c4 : w.cell? ⟨p, 4, none⟩ = some (.bool true) := h.c 4 _ rfl
  have f4 : w.frozen? ⟨p, 4, none⟩ = false := h.f 4
  clear h hF
  go_enter Tryz.func31, Tryz.ntmps31
  go_wp2_with fail
  refine (HC.out ()).mono ?_
  rintro e w1 ⟨sl, cap, q', rfl, h1⟩
  have HE : Hid (_) := h1
  clear h1 HC c0 f0 c4 f4 h48
  go_wp2
  go_ret
  exact ⟨_, _, _, rfl, HE.out⟩
end Go.Proofs.YthkaekpoicodeaaGreatDoor
