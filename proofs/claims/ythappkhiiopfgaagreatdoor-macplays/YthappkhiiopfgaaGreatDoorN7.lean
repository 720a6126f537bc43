/- The document's own node on the wire: hearing, over its text. -/
import Derived.Test.YthappkhiiopfgaaGreatDoorUb
import Derived.Deep.Cut
namespace Go.Proofs.YthappkhiiopfgaaGreatDoor
open Go.RowKit
set_option linter.unusedVariables false
def badE (s : Int) (v : Mm.Ev) : List Mm.Ev := if Km.offC s then [v, ⟨7, Cm.noF, 0⟩] else [v]
def badP (s : Int) : Mm.Ph := if Km.offC s then .off else .flag
def badH (s : Int) (hh : Bool) : Bool := if Km.offC s then false else hh
theorem rbad_both (w : World) (p : Nat) (ph lf : Int) (fi sd hh x : Bool) (n : Int) (r : Bool) (d out : ByteArray) (at_ ar : Int) (q : Nat) (tk : Bool) (s g : Int) (v : Mm.Ev) (D : ByteArray) (hD : D = ⟨v.f.2.2.2.toArray⟩) (h : MRow w p (mcs ph lf fi sd hh x n r d out at_ ar q tk s g)) :
    Calls Tryz.prog 63 #[bptr p, evA v D] w fun e w' => ∃ sl cap, e = .returned (.slice sl (badE s v).length cap) ∧ EvAt w.heap.size w' sl cap (badE s v) ∧ (∀ b o, sl = some ⟨b, o, none⟩ → w.heap.size ≤ b) ∧ But p w w' ∧ MRow w' p (mcs (phI (badP s)) 6 fi false (badH s hh) x n r d out at_ ar q tk s g) := by
  unfold badE badP badH
  cases ho : Km.offC s
  · exact rbad_any w p ph lf fi sd hh x n r d out at_ ar q tk s g v D hD ho h
  · exact rbadoff_any w p ph lf fi sd hh x n r d out at_ ar q tk s g v D hD ho h
theorem kept2 {p q : Nat} {a b c : World} (h : But q a b) (k : But p b c) : Kept (fun j => j = p ∨ j = q) a c :=
  ⟨k.1.trans h.1, k.2.1.trans h.2.1, k.2.2.1.trans h.2.2.1, Nat.le_trans h.2.2.2.1 k.2.2.2.1, fun j hj hn => (k.2.2.2.2 j (Nat.lt_of_lt_of_le hj h.2.2.2.1) (fun e => hn (Or.inl e))).trans (h.2.2.2.2 j hj (fun e => hn (Or.inr e)))⟩
theorem MRow.drewN {w w2 : World} {p q : Nat} {cs : Array Value} (h : MRow w p cs) (hb : But q w.drew w2) (hn : p ≠ q) : MRow w2 p cs := (show MRow w.drew p cs from h).but hb hn
set_option maxRecDepth 100000 in
set_option maxHeartbeats 2000000 in
theorem rhear0_any (w : World) (p : Nat) (ph lf : Int) (fi sd hh x : Bool) (n : Int) (r : Bool) (d out : ByteArray) (at_ ar : Int) (q : Nat) (s g : Int) (c : Bool) (h : MRow w p (mcs ph lf fi sd hh x n r d out at_ ar q true s g)) :
    Calls Tryz.prog 40 #[bptr p, .bool c] w fun e w' => e = .returned (.slice none 0 0) ∧ But p w w' ∧ MRow w' p (mcs 4 3 fi sd hh x n r d out at_ ar q true s g) := by
  have HM : Hid (MRow w p (mcs ph lf fi sd hh x n r d out at_ ar q true s g)) := h
  have c13 : w.cell? ⟨p, 13, none⟩ = some (.bool true) := h.c 13 _ rfl
  have f13 : w.frozen? ⟨p, 13, none⟩ = false := h.f 13
  clear h
  go_enter Tryz.func40, Tryz.ntmps40
  go_wp2_with fail
  refine (rpause_any w p ph lf fi sd hh x n r d out at_ ar q true s g HM.out).mono ?_
  rintro e w1 ⟨rfl, h1, h2⟩
  have HE : Hid (But p w w1 ∧ MRow w1 p (mcs 4 3 fi sd hh x n r d out at_ ar q true s g)) := ⟨h2, h1⟩
  clear h1 h2 c13 f13
  go_wp2
  go_ret
  exact ⟨rfl, HE.out⟩
set_option maxRecDepth 100000 in
set_option maxHeartbeats 2000000 in
theorem rhear1_any (w : World) (p : Nat) (ph lf : Int) (fi sd hh x : Bool) (n : Int) (r : Bool) (d out : ByteArray) (at_ ar : Int) (q : Nat) (s g : Int) (bs : List Bool) (c : Bool) (hpq : p ≠ q) (S : ByteArray) (R : List Bool) (hr : w.heap[q]? = some (.cells (rdc S (Mm.feed bs) R) 66 (0, 0))) (hI : Inv (Mm.feed bs) R S.size) (hS : S.size = bs.length) (hl : bs.length < 1000)
    (hc : Mm.code bs c ≠ 0) (h : MRow w p (mcs ph lf fi sd hh x n r d out at_ ar q false s g)) :
    Calls Tryz.prog 40 #[bptr p, .bool c] w fun e w' => ∃ sl cap, e = .returned (.slice sl (badE s ⟨5, Cm.noF, Mm.code bs c⟩).length cap) ∧ EvAt w.heap.size w' sl cap (badE s ⟨5, Cm.noF, Mm.code bs c⟩) ∧ (∀ b o, sl = some ⟨b, o, none⟩ → w.heap.size ≤ b) ∧ Kept (fun j => j = p ∨ j = q) w w' ∧
      MRow w' p (mcs (phI (badP s)) 6 fi false (badH s hh) x n r d out at_ ar q false s (Km.gotG s g false)) := by
  have HM : Hid (MRow w p (mcs ph lf fi sd hh x n r d out at_ ar q false s g)) := h
  have HN : Hid (∀ w1, w1.heap[q]? = some (.cells (rdc S (Mm.feed bs) R) 66 (0, 0)) → Calls Tryz.prog 58 #[bptr q, .int .u8 ((Bm.sign c).toNat : Int)] w1 fun e w' => e = .returned (.int .i64 (Mm.code bs c : Int)) ∧ But q w1 w') := fun w1 h1 => by
    refine (next_bit q S (by omega) (Mm.feed bs) R (Bm.sign c) w1 hI h1).mono ?_
    rintro e w2 ⟨rfl, h2, h3⟩
    rw [Bm.isOne_sign]
    exact ⟨rfl, h3⟩
  have c12 : w.cell? ⟨p, 12, none⟩ = some (.pointer (some ⟨q, 0, none⟩)) := h.c 12 _ rfl
  have f12 : w.frozen? ⟨p, 12, none⟩ = false := h.f 12
  have c13 : w.cell? ⟨p, 13, none⟩ = some (.bool false) := h.c 13 _ rfl
  have f13 : w.frozen? ⟨p, 13, none⟩ = false := h.f 13
  clear h hI
  have HG : Hid (∀ w, Calls Tryz.prog 66 #[.agg #[.int .i64 s, .int .i64 g], .bool false] w fun e w' => e = .returned (.agg #[.int .i64 s, .int .i64 (Km.gotG s g false)]) ∧ Below w.heap.size w w') := fun w => rgot_any s g false w
  have HR : Hid (w.heap[q]? = some (.cells (rdc S (Mm.feed bs) R) 66 (0, 0))) := hr
  clear hr
  generalize Mm.code bs c = CO at *
  generalize Km.gotG s g false = G at *
  go_enter Tryz.func40, Tryz.ntmps40
  go_wp2_with fail
  go_cut [5] from 12 (fun v wx => v = .int .i64 (CO : Int) ∧ Hid (MRow wx p (mcs ph lf fi sd hh x n r d out at_ ar q false s g)) ∧ Hid (But q w wx))
  case first =>
    go_region_with (first | (go_at_call 64; refine (refBit_any _ _).mono ?_; rintro e w' ⟨rfl, rfl⟩) | (go_at_call 58; refine (HN.out _ (by exact HR.out)).mono ?_; rintro e w2 ⟨rfl, hb2⟩; have HM2 : Hid (MRow w2 p (mcs ph lf fi sd hh x n r d out at_ ar q false s g)) := HM.out.drewN hb2 hpq; have HB2 : Hid (But q w w2) := (drew_but rfl).trans hb2; clear hb2))
    all_goals
      go_wp2_with fail
      go_meet
      case rel => exact ⟨rfl, HM2, HB2⟩
  case rest =>
    obtain ⟨rfl, HMc, HBc⟩ := hcut
    have hm := HMc.out
    have cc14 : wc.cell? ⟨p, 14, none⟩ = some (.int .i64 s) := hm.c 14 _ rfl
    have fc14 : wc.frozen? ⟨p, 14, none⟩ = false := hm.f 14
    have cc15 : wc.cell? ⟨p, 15, none⟩ = some (.int .i64 g) := hm.c 15 _ rfl
    have fc15 : wc.frozen? ⟨p, 15, none⟩ = false := hm.f 15
    clear hm
    have hco : ((CO : Int) != 0) = true := by simp; exact hc
    go_wp2_with fail
    refine (HG.out _).mono ?_
    rintro e w3 ⟨rfl, hb3⟩
    have hm : MRow w3 p (mcs ph lf fi sd hh x n r d out at_ ar q false s g) := HMc.out.on hb3
    have HM3 : Hid (MRow w3 p (mcs ph lf fi sd hh x n r d out at_ ar q false s g)) := hm
    have HB3 : Hid (But q w w3) := HBc.out.join hb3
    have cd14 : w3.cell? ⟨p, 14, none⟩ = some (.int .i64 s) := hm.c 14 _ rfl
    have fd14 : w3.frozen? ⟨p, 14, none⟩ = false := hm.f 14
    have cd15 : w3.cell? ⟨p, 15, none⟩ = some (.int .i64 g) := hm.c 15 _ rfl
    have fd15 : w3.frozen? ⟨p, 15, none⟩ = false := hm.f 15
    clear hm HMc HBc hb3 cc14 cc15 fc14 fc15 HM HR HN c12 c13 f12 f13
    go_wp2_with fail
    refine (rbad_both _ p ph lf fi sd hh x n r d out at_ ar q false s G ⟨5, Cm.noF, CO⟩ ⟨#[]⟩ rfl ((HM3.out.set 14 _).set 15 _)).mono ?_
    rintro e w4 ⟨sl, cap, rfl, h1, h2, h3, h4⟩
    have hs : w.heap.size ≤ w3.heap.size := HB3.out.2.2.2.1
    have HE : Hid (EvAt w.heap.size w4 sl cap (badE s ⟨5, Cm.noF, CO⟩) ∧ (∀ b o, sl = some ⟨b, o, none⟩ → w.heap.size ≤ b) ∧ Kept (fun j => j = p ∨ j = q) w w4 ∧ MRow w4 p (mcs (phI (badP s)) 6 fi false (badH s hh) x n r d out at_ ar q false s G)) :=
      ⟨h1.base (by simp; exact hs), (fun b o e => by have := h2 b o e; simp at this; omega), kept2 HB3.out (((But.refl p w3).set1.set1).trans h3), h4⟩
    clear h1 h2 h3 h4 HM3 HB3
    go_wp2
    go_ret
    exact ⟨_, _, rfl, HE.out⟩
end Go.Proofs.YthappkhiiopfgaaGreatDoor
