/- The document's own node on the wire: Drive, over its text. -/
import Derived.Test.YthkaekpoicodeaaGreatDoorN2
import Derived.Test.YthkaekpoicodeaaGreatDoorNe
import Derived.Deep.AppendLies
import Derived.Test.YthkaekpoicodeaaGreatDoorU9
namespace Go.Proofs.YthkaekpoicodeaaGreatDoor
open Go.RowKit
set_option linter.unusedVariables false
theorem tailI_one {t : Option Nat} : (tailI t == 1) = decide (t = some 1) := by
  rw [Bool.eq_iff_iff]
  cases t with
  | none => simp [tailI]
  | some k =>
    simp [tailI]
    omega
set_option maxRecDepth 100000 in
set_option maxHeartbeats 2000000 in
theorem rdrive_any (w : World) (p q : Nat) (m : Mm.St) (h : RMac w p q m) : Calls Tryz.prog 30 #[bptr p] w fun e w' => e = .returned (.int .u8 (if Mm.drive m then 49 else 48)) ∧ Below w.heap.size w w' := by
  obtain ⟨out, at_, ar, hrow, hout⟩ := h.row
  have HM : Hid (MRow w p _) := hrow
  obtain ⟨ph, lf, fi, sd, hh, tk, f, bs, cs, cg⟩ := m
  dsimp only at *
  have c0 : w.cell? ⟨p, 0, none⟩ = some (.int .i64 (phI ph)) := hrow.c 0 _ rfl
  cases ph with
  | idle =>
    have c0' : w.cell? ⟨p, 0, none⟩ = some (.int .i64 0) := c0
    have c4 : w.cell? ⟨p, 4, none⟩ = some (.bool hh) := hrow.c 4 _ rfl
    clear c0 hrow hout HM h
    cases hh
    all_goals
      go_enter Tryz.func30, Tryz.ntmps30
      go_wp2
      go_ret
      exact ⟨rfl, Below.refl _ _⟩
  | inFr =>
    have c0' : w.cell? ⟨p, 0, none⟩ = some (.int .i64 1) := c0
    have c3 : w.cell? ⟨p, 3, none⟩ = some (.bool sd) := hrow.c 3 _ rfl
    have c12 : w.cell? ⟨p, 12, none⟩ = some (.pointer (some ⟨q, 0, none⟩)) := hrow.c 12 _ rfl
    cases sd
    · obtain ⟨S, R, hrd, hI, hS0⟩ := h.rd rfl
      have hS : S.size = bs.length := hS0
      clear hS0
      have e : Mm.drive ⟨.inFr, lf, fi, false, hh, tk, f, bs, cs, cg⟩ = !(decide ((Mm.feed bs).t = some 1) && (match (Mm.feed bs).w with | some (_, n) => Cm.right (Mm.feed bs).p n | none => false)) := rfl
      rw [e]
      clear e
      have HTl := fun w' (hb : Below w.heap.size w w') => rtail_any w' q _ _ _ _ _ _ _ _ _ ((hb.block q h.lt).trans hrd)
      by_cases h1 : (Mm.feed bs).t = some 1
      · obtain ⟨_, ff, nn, hw, hl⟩ := hI.tail 1 h1
        have hb157 : bs.length < 157 := Mm.good_len (h.ok.good rfl).1
        have hlp : (Mm.feed bs).p.length ≤ bs.length := by have h9 : (Mm.feed bs).p.length ≤ S.size := hI.lenp; omega
        have HR : Hid (∀ w', Below w.heap.size w w' → Calls Tryz.prog 43 #[bptr q] w' fun e w'' => e = .returned (.bool (Cm.right (Mm.feed bs).p nn)) ∧ Below w'.heap.size w' w'') := fun w' hb => by
          have hr := (hb.block q h.lt).trans hrd
          unfold rdc at hr
          rw [hw] at hr
          exact right_any q S _ (Mm.feed bs).p nn _ _ _ _ _ w' hr hl (by omega)
        rw [h1, hw]
        have HT2 : Hid (∀ w', Below w.heap.size w w' → Calls Tryz.prog 42 #[bptr q] w' fun e w'' => e = .returned (.int .i64 1) ∧ Below w'.heap.size w' w'') := fun w' hb => by
          have h2 := HTl w' hb
          rw [h1] at h2
          exact h2
        dsimp only
        rw [decide_eq_true rfl]
        rcases Bool.eq_false_or_eq_true (Cm.right (Mm.feed bs).p nn) with hRR | hRR
        all_goals
          rw [hRR] at HR
          simp only [hRR]
          clear hRR HTl c0 hrow hout h hrd hI hS hw hl h1 hb157 hlp
          go_enter Tryz.func30, Tryz.ntmps30
          go_wp2_with fail
          refine (HT2.out _ (Below.refl _ _)).mono ?_
          rintro e w1 ⟨rfl, hb1⟩
          have c12' : w1.cell? ⟨p, 12, none⟩ = some (.pointer (some ⟨q, 0, none⟩)) := (hb1.cell (p := ⟨p, 12, none⟩) HM.out.lt).trans c12
          go_wp2_with fail
          refine (HR.out _ hb1).mono ?_
          rintro e w2 ⟨rfl, hb2⟩
          have hb3 : Hid (Below w.heap.size w w2) := below_joinK hb1 hb2 hb1.size
          clear hb1 hb2 HT2 HR
          go_wp2
          go_ret
          exact ⟨rfl, hb3.out⟩
      · have ht := tailI_one (t := (Mm.feed bs).t)
        rw [decide_eq_false h1] at ht ⊢
        rw [Bool.false_and]
        have HT2 : Hid (∀ w', Below w.heap.size w w' → Calls Tryz.prog 42 #[bptr q] w' fun e w'' => e = .returned (.int .i64 (tailI (Mm.feed bs).t)) ∧ Below w'.heap.size w' w'') := fun w' hb => HTl w' hb
        generalize tailI (Mm.feed bs).t = TT at *
        clear HTl c0 hrow hout h hrd hI hS h1
        go_enter Tryz.func30, Tryz.ntmps30
        go_wp2_with fail
        refine (HT2.out _ (Below.refl _ _)).mono ?_
        rintro e w1 ⟨rfl, hb1⟩
        go_wp2
        go_ret
        exact ⟨rfl, hb1⟩
    · obtain ⟨rfl, rfl, rfl⟩ := hout rfl
      obtain ⟨_, _, hF0, hB, hL0⟩ := h.ok.snd rfl
      have hF : Mm.isFr f = true := hF0
      clear hF0
      have hL : bs.length < (Mm.outB f).length := hL0
      clear hL0
      have HIx := fun W => idx_row (Mm.outB f) bs.length hL W
      have c9 : w.cell? ⟨p, 9, none⟩ = some (.string ⟨(Bm.row (Mm.outB f)).toArray⟩) := hrow.c 9 _ rfl
      have c10 : w.cell? ⟨p, 10, none⟩ = some (.int .i64 (bs.length : Int)) := hrow.c 10 _ rfl
      have hz : (ByteArray.mk (Bm.row (Mm.outB f)).toArray).size = (Mm.outB f).length := by show (Bm.row (Mm.outB f)).toArray.size = _; simp [Bm.row]
      have hO := (Mm.out_len hF).2
      have e : (if Mm.drive ⟨.inFr, lf, fi, true, hh, tk, f, bs, cs, cg⟩ then (49 : Int) else 48) = ((Bm.sign ((Mm.outB f).getD bs.length true)).toNat : Int) := by
        show (if (Mm.outB f).getD bs.length true then (49 : Int) else 48) = _
        cases (Mm.outB f).getD bs.length true <;> rfl
      rw [e]
      have HC : Hid (∀ w', Below w.heap.size w w' → w'.cell? ⟨p, 9, none⟩ = some (.string ⟨(Bm.row (Mm.outB f)).toArray⟩) ∧ w'.cell? ⟨p, 10, none⟩ = some (.int .i64 (bs.length : Int))) := fun w' hb => ⟨(hb.cell (p := ⟨p, 9, none⟩) hrow.lt).trans c9, (hb.cell (p := ⟨p, 10, none⟩) hrow.lt).trans c10⟩
      have hlen : bs.length < 200 := by omega
      clear e c0 hrow hout h hB hF HM c9 c10
      generalize ByteArray.mk (Bm.row (Mm.outB f)).toArray = T at *
      generalize Bm.sign ((Mm.outB f).getD bs.length true) = C at *
      generalize (Mm.outB f).length = L at *
      generalize bs.length = B at *
      go_enter Tryz.func30, Tryz.ntmps30
      go_wp2_with fail
      refine Lw.wp_region_quiet_below (by kernel_rfl) (by kernel_rfl) ?_
      repeat (first
        | go_big_quiet_skip
        | (go_big_quiet_want; go_big_quiet_op; go_big_quiet_on)
        | (go_big_quiet_want; go_big_quiet_op; apply Exists.intro; refine ⟨fun _ hb' => ?_, ?_⟩; (first
          | exact Lw.val_rfl _
          | (simp [go_sem, (HC.out _ hb').1]; rfl)
          | (simp [go_sem, (HC.out _ hb').2]; rfl)
          | (simp [go_sem, HIx]; rfl)); go_big_quiet_on))
      refine wpQuiet_nil ?_
      intro w2 hb2
      go_wp2
      go_ret
      exact ⟨rfl, hb2⟩
  | flag =>
    have c0' : w.cell? ⟨p, 0, none⟩ = some (.int .i64 2) := c0
    have c14 : w.cell? ⟨p, 14, none⟩ = some (.int .i64 cs) := hrow.c 14 _ rfl
    have c15 : w.cell? ⟨p, 15, none⟩ = some (.int .i64 cg) := hrow.c 15 _ rfl
    have HP : Hid (∀ w, Calls Tryz.prog 44 #[.agg #[.int .i64 cs, .int .i64 cg]] w fun e w' => e = .returned (.bool (Km.pasC cs cg)) ∧ Below w.heap.size w w') := fun w => rpas_any cs cg w
    have e : Mm.drive ⟨.flag, lf, fi, sd, hh, tk, f, bs, cs, cg⟩ = Km.pasC cs cg := rfl
    rw [e]
    generalize Km.pasC cs cg = PP at *
    clear e c0 hrow hout HM h
    go_enter Tryz.func30, Tryz.ntmps30
    go_wp2_with fail
    refine (HP.out _).mono ?_
    rintro e w1 ⟨rfl, hb1⟩
    cases PP
    all_goals
      go_wp2
      go_ret
      exact ⟨rfl, hb1⟩
  | reco =>
    have c0' : w.cell? ⟨p, 0, none⟩ = some (.int .i64 3) := c0
    clear c0 hrow hout HM h
    go_enter Tryz.func30, Tryz.ntmps30
    go_wp2
    go_ret
    exact ⟨rfl, Below.refl _ _⟩
  | pause =>
    have c0' : w.cell? ⟨p, 0, none⟩ = some (.int .i64 4) := c0
    clear c0 hrow hout HM h
    go_enter Tryz.func30, Tryz.ntmps30
    go_wp2
    go_ret
    exact ⟨rfl, Below.refl _ _⟩
  | off =>
    have c0' : w.cell? ⟨p, 0, none⟩ = some (.int .i64 5) := c0
    clear c0 hrow hout HM h
    go_enter Tryz.func30, Tryz.ntmps30
    go_wp2
    go_ret
    exact ⟨rfl, Below.refl _ _⟩
end Go.Proofs.YthkaekpoicodeaaGreatDoor
/- The document's own node on the wire: bad, over its text. -/
namespace Go.Proofs.YthkaekpoicodeaaGreatDoor
open Go.RowKit
set_option linter.unusedVariables false
set_option maxRecDepth 100000 in
set_option maxHeartbeats 2000000 in
theorem rbad_any (w : World) (p : Nat) (ph lf : Int) (fi sd hh x : Bool) (n : Int) (r : Bool) (d out : ByteArray) (at_ ar : Int) (q : Nat) (tk : Bool) (s g : Int) (v : Mm.Ev) (D : ByteArray) (hD : D = ⟨v.f.2.2.2.toArray⟩) (ho : Km.offC s = false) (h : MRow w p (mcs ph lf fi sd hh x n r d out at_ ar q tk s g)) :
    Calls Tryz.prog 72 #[bptr p, evA v D] w fun e w' => ∃ sl cap, e = .returned (.slice sl 1 cap) ∧ EvAt w.heap.size w' sl cap [v] ∧ (∀ b o, sl = some ⟨b, o, none⟩ → w.heap.size ≤ b) ∧ But p w w' ∧ MRow w' p (mcs 2 6 fi false hh x n r d out at_ ar q tk s g) := by
  have hlt := h.lt
  have HD : Hid (D = ⟨v.f.2.2.2.toArray⟩) := hD
  have HM : Hid (MRow w p (mcs ph lf fi sd hh x n r d out at_ ar q tk s g)) := h
  have HO : Hid (∀ w, Calls Tryz.prog 66 #[.agg #[.int .i64 s, .int .i64 g]] w fun e w' => e = .returned (.bool false) ∧ Below w.heap.size w w') := fun w => by
    have h := roff_any s g w
    rw [ho] at h
    exact h
  have c0 : w.cell? ⟨p, 0, none⟩ = some (.int .i64 ph) := h.c 0 _ rfl
  have f0 : w.frozen? ⟨p, 0, none⟩ = false := h.f 0
  have c1 : w.cell? ⟨p, 1, none⟩ = some (.int .i64 lf) := h.c 1 _ rfl
  have f1 : w.frozen? ⟨p, 1, none⟩ = false := h.f 1
  have c3 : w.cell? ⟨p, 3, none⟩ = some (.bool sd) := h.c 3 _ rfl
  have f3 : w.frozen? ⟨p, 3, none⟩ = false := h.f 3
  have c14 : w.cell? ⟨p, 14, none⟩ = some (.int .i64 s) := h.c 14 _ rfl
  have f14 : w.frozen? ⟨p, 14, none⟩ = false := h.f 14
  have c15 : w.cell? ⟨p, 15, none⟩ = some (.int .i64 g) := h.c 15 _ rfl
  have f15 : w.frozen? ⟨p, 15, none⟩ = false := h.f 15
  have hpw : ¬ p = w.heap.size := Nat.ne_of_lt hlt
  have hpw1 : ¬ p = w.heap.size + 1 := by omega
  clear h hD ho
  go_enter Tryz.func72, Tryz.ntmps72
  go_wp2_with fail
  refine (HO.out _).mono ?_
  rintro e w1 ⟨rfl, hb1⟩
  have e1 : (((((w.setCell ⟨p, 3, none⟩ (.bool false)).setCell ⟨p, 0, none⟩ (.int .i64 2)).setCell ⟨p, 1, none⟩ (.int .i64 6)).alloc (.cells #[.int .i64 (v.k : Int), .bool v.f.1, .int .u32 (v.f.2.1 : Int), .bool v.f.2.2.1, .string D, .int .i64 (v.e : Int)] 60)).alloc (.cells #[.int .i64 (v.k : Int), .bool v.f.1, .int .u32 (v.f.2.1 : Int), .bool v.f.2.2.1, .string D, .int .i64 (v.e : Int)] 60)).heap.size = w.heap.size + 2 := by simp
  have HM0 : MRow (((w.setCell ⟨p, 3, none⟩ (.bool false)).setCell ⟨p, 0, none⟩ (.int .i64 2)).setCell ⟨p, 1, none⟩ (.int .i64 6)) p (mcs 2 6 fi false hh x n r d out at_ ar q tk s g) := ((HM.out.set 3 _).set 0 _).set 1 _
  have HB0 : But p w (((w.setCell ⟨p, 3, none⟩ (.bool false)).setCell ⟨p, 0, none⟩ (.int .i64 2)).setCell ⟨p, 1, none⟩ (.int .i64 6)) := (But.refl p w).set1.set1.set1
  have hbb := (((Below.refl (((w.setCell ⟨p, 3, none⟩ (.bool false)).setCell ⟨p, 0, none⟩ (.int .i64 2)).setCell ⟨p, 1, none⟩ (.int .i64 6)).heap.size (((w.setCell ⟨p, 3, none⟩ (.bool false)).setCell ⟨p, 0, none⟩ (.int .i64 2)).setCell ⟨p, 1, none⟩ (.int .i64 6))).alloc (Nat.le_refl _) (.cells #[.int .i64 (v.k : Int), .bool v.f.1, .int .u32 (v.f.2.1 : Int), .bool v.f.2.2.1, .string D, .int .i64 (v.e : Int)] 60)).alloc (by simp) (.cells #[.int .i64 (v.k : Int), .bool v.f.1, .int .u32 (v.f.2.1 : Int), .bool v.f.2.2.1, .string D, .int .i64 (v.e : Int)] 60))
  have hb2 := below_joinK hbb hb1 (by simp; omega)
  have HM1 : Hid (MRow w1 p (mcs 2 6 fi false hh x n r d out at_ ar q tk s g)) := HM0.on hb2
  have HB1 : Hid (But p w w1) := HB0.trans (But.of_below hb2)
  have HE : Hid (w1.heap[w.heap.size + 1]? = some (.cells (evV v).toArray 60 (0, 0))) := by
    show _ = _
    rw [hb1.block (w.heap.size + 1) (by rw [e1]; omega)]
    have h2 := heap_alloc2_new (((w.setCell ⟨p, 3, none⟩ (.bool false)).setCell ⟨p, 0, none⟩ (.int .i64 2)).setCell ⟨p, 1, none⟩ (.int .i64 6)) (.cells #[.int .i64 (v.k : Int), .bool v.f.1, .int .u32 (v.f.2.1 : Int), .bool v.f.2.2.1, .string D, .int .i64 (v.e : Int)] 60) (.cells #[.int .i64 (v.k : Int), .bool v.f.1, .int .u32 (v.f.2.1 : Int), .bool v.f.2.2.1, .string D, .int .i64 (v.e : Int)] 60)
    rw [show (((w.setCell ⟨p, 3, none⟩ (.bool false)).setCell ⟨p, 0, none⟩ (.int .i64 2)).setCell ⟨p, 1, none⟩ (.int .i64 6)).heap.size = w.heap.size by simp] at h2
    rw [h2, HD.out]
    rfl
  have hsz : Hid (w.heap.size + 2 ≤ w1.heap.size) := by have := hb1.size; rw [e1] at this; exact this
  clear e1 HM0 HB0 hbb hb1 hb2 HO
  go_wp2
  go_ret
  exact ⟨_, _, rfl, EvAt.one HE.out (Nat.le_succ _), (fun b o e => by injection e with e; injection e with e; omega), HB1.out, HM1.out⟩
theorem But.grown {p : Nat} {a b c : World} {k : Option Nat} (h : But p a b) (g : b.grownBy c k) (hk : ∀ j, k = some j → a.heap.size ≤ j) : But p a c :=
  ⟨g.os.trans h.1, g.tape.trans h.2.1, g.output.trans h.2.2.1, Nat.le_trans h.2.2.2.1 g.size, fun j hj hn => (g.block j (Nat.lt_of_lt_of_le hj h.2.2.2.1) (fun e => absurd (hk j e.symm) (Nat.not_le.2 hj))).trans (h.2.2.2.2 j hj hn)⟩
theorem MRow.grown {w w' : World} {p : Nat} {cs : Array Value} {k : Option Nat} (h : MRow w p cs) (g : w.grownBy w' k) (hk : k ≠ some p) : MRow w' p cs := (g.block p h.lt (fun e => hk e.symm)).trans h
theorem Tryz.infoEv : (Tryz.prog.info? 60).map (fun i => (i.zero, i.size, i.bytes)) = some (some (.agg #[.int .i64 0, .bool false, .int .u32 0, .bool false, .string ⟨#[]⟩, .int .i64 0]), 6, 48) := by kernel_rfl
theorem ev_oneCell (v : Mm.Ev) : ∀ u ∈ evV v, u.oneCell' = true := by
  intro u hu
  simp [evV] at hu
  rcases hu with rfl | rfl | rfl | rfl | rfl | rfl <;> rfl
set_option maxRecDepth 100000 in
set_option maxHeartbeats 2000000 in
theorem rbadoff_any (w : World) (p : Nat) (ph lf : Int) (fi sd hh x : Bool) (n : Int) (r : Bool) (d out : ByteArray) (at_ ar : Int) (q : Nat) (tk : Bool) (s g : Int) (v : Mm.Ev) (D : ByteArray) (hD : D = ⟨v.f.2.2.2.toArray⟩) (ho : Km.offC s = true) (h : MRow w p (mcs ph lf fi sd hh x n r d out at_ ar q tk s g)) :
    Calls Tryz.prog 72 #[bptr p, evA v D] w fun e w' => ∃ sl cap, e = .returned (.slice sl 2 cap) ∧ EvAt w.heap.size w' sl cap [v, ⟨7, Cm.noF, 0⟩] ∧ (∀ b o, sl = some ⟨b, o, none⟩ → w.heap.size ≤ b) ∧ But p w w' ∧ MRow w' p (mcs 5 6 fi false false x n r d out at_ ar q tk s g) := by
  have hlt := h.lt
  have HD : Hid (D = ⟨v.f.2.2.2.toArray⟩) := hD
  have HM : Hid (MRow w p (mcs ph lf fi sd hh x n r d out at_ ar q tk s g)) := h
  have HO : Hid (∀ w, Calls Tryz.prog 66 #[.agg #[.int .i64 s, .int .i64 g]] w fun e w' => e = .returned (.bool true) ∧ Below w.heap.size w w') := fun w => by
    have h := roff_any s g w
    rw [ho] at h
    exact h
  have c0 : w.cell? ⟨p, 0, none⟩ = some (.int .i64 ph) := h.c 0 _ rfl
  have f0 : w.frozen? ⟨p, 0, none⟩ = false := h.f 0
  have c1 : w.cell? ⟨p, 1, none⟩ = some (.int .i64 lf) := h.c 1 _ rfl
  have f1 : w.frozen? ⟨p, 1, none⟩ = false := h.f 1
  have c3 : w.cell? ⟨p, 3, none⟩ = some (.bool sd) := h.c 3 _ rfl
  have f3 : w.frozen? ⟨p, 3, none⟩ = false := h.f 3
  have c14 : w.cell? ⟨p, 14, none⟩ = some (.int .i64 s) := h.c 14 _ rfl
  have f14 : w.frozen? ⟨p, 14, none⟩ = false := h.f 14
  have c15 : w.cell? ⟨p, 15, none⟩ = some (.int .i64 g) := h.c 15 _ rfl
  have f15 : w.frozen? ⟨p, 15, none⟩ = false := h.f 15
  have hpw : ¬ p = w.heap.size := Nat.ne_of_lt hlt
  have hpw1 : ¬ p = w.heap.size + 1 := by omega
  clear h hD ho
  go_enter Tryz.func72, Tryz.ntmps72
  go_wp2_with fail
  refine (HO.out _).mono ?_
  rintro e w1 ⟨rfl, hb1⟩
  have e1 : (((((w.setCell ⟨p, 3, none⟩ (.bool false)).setCell ⟨p, 0, none⟩ (.int .i64 2)).setCell ⟨p, 1, none⟩ (.int .i64 6)).alloc (.cells #[.int .i64 (v.k : Int), .bool v.f.1, .int .u32 (v.f.2.1 : Int), .bool v.f.2.2.1, .string D, .int .i64 (v.e : Int)] 60)).alloc (.cells #[.int .i64 (v.k : Int), .bool v.f.1, .int .u32 (v.f.2.1 : Int), .bool v.f.2.2.1, .string D, .int .i64 (v.e : Int)] 60)).heap.size = w.heap.size + 2 := by simp
  have HM0 : MRow (((w.setCell ⟨p, 3, none⟩ (.bool false)).setCell ⟨p, 0, none⟩ (.int .i64 2)).setCell ⟨p, 1, none⟩ (.int .i64 6)) p (mcs 2 6 fi false hh x n r d out at_ ar q tk s g) := ((HM.out.set 3 _).set 0 _).set 1 _
  have HB0 : But p w (((w.setCell ⟨p, 3, none⟩ (.bool false)).setCell ⟨p, 0, none⟩ (.int .i64 2)).setCell ⟨p, 1, none⟩ (.int .i64 6)) := (But.refl p w).set1.set1.set1
  have hbb := (((Below.refl (((w.setCell ⟨p, 3, none⟩ (.bool false)).setCell ⟨p, 0, none⟩ (.int .i64 2)).setCell ⟨p, 1, none⟩ (.int .i64 6)).heap.size (((w.setCell ⟨p, 3, none⟩ (.bool false)).setCell ⟨p, 0, none⟩ (.int .i64 2)).setCell ⟨p, 1, none⟩ (.int .i64 6))).alloc (Nat.le_refl _) (.cells #[.int .i64 (v.k : Int), .bool v.f.1, .int .u32 (v.f.2.1 : Int), .bool v.f.2.2.1, .string D, .int .i64 (v.e : Int)] 60)).alloc (by simp) (.cells #[.int .i64 (v.k : Int), .bool v.f.1, .int .u32 (v.f.2.1 : Int), .bool v.f.2.2.1, .string D, .int .i64 (v.e : Int)] 60))
  have hb2 := below_joinK hbb hb1 (by simp; omega)
  have HM1 : Hid (MRow w1 p (mcs 2 6 fi false hh x n r d out at_ ar q tk s g)) := HM0.on hb2
  have HB1 : Hid (But p w w1) := HB0.trans (But.of_below hb2)
  have HE : Hid (w1.heap[w.heap.size + 1]? = some (.cells (evV v).toArray 60 (0, 0))) := by
    show _ = _
    rw [hb1.block (w.heap.size + 1) (by rw [e1]; omega)]
    have h2 := heap_alloc2_new (((w.setCell ⟨p, 3, none⟩ (.bool false)).setCell ⟨p, 0, none⟩ (.int .i64 2)).setCell ⟨p, 1, none⟩ (.int .i64 6)) (.cells #[.int .i64 (v.k : Int), .bool v.f.1, .int .u32 (v.f.2.1 : Int), .bool v.f.2.2.1, .string D, .int .i64 (v.e : Int)] 60) (.cells #[.int .i64 (v.k : Int), .bool v.f.1, .int .u32 (v.f.2.1 : Int), .bool v.f.2.2.1, .string D, .int .i64 (v.e : Int)] 60)
    rw [show (((w.setCell ⟨p, 3, none⟩ (.bool false)).setCell ⟨p, 0, none⟩ (.int .i64 2)).setCell ⟨p, 1, none⟩ (.int .i64 6)).heap.size = w.heap.size by simp] at h2
    rw [h2, HD.out]
    rfl
  have hsz : Hid (w.heap.size + 2 ≤ w1.heap.size) := by have := hb1.size; rw [e1] at this; exact this
  clear e1 HM0 HB0 hbb hb1 hb2 HO
  have hm1 := HM1.out
  have ca0 : w1.cell? ⟨p, 0, none⟩ = some (.int .i64 2) := hm1.c 0 _ rfl
  have fa0 : w1.frozen? ⟨p, 0, none⟩ = false := hm1.f 0
  have ca4 : w1.cell? ⟨p, 4, none⟩ = some (.bool hh) := hm1.c 4 _ rfl
  have fa4 : w1.frozen? ⟨p, 4, none⟩ = false := hm1.f 4
  clear c0 c1 c3 c14 c15 f0 f1 f3 f14 f15 hm1
  obtain ⟨i0, hi, hz0, hz1, hz2⟩ := info_parts Tryz.infoEv
  have hown : (((w1.setCell ⟨p, 0, none⟩ (.int .i64 5)).setCell ⟨p, 4, none⟩ (.bool false)).alloc (.cells #[.int .i64 7, .bool false, .int .u32 0, .bool false, .string ⟨#[]⟩, .int .i64 0] 60)).ownsRow w.heap.size 60 6 (.slice (some ⟨w.heap.size + 1, 0, none⟩) 1 1) 1 (evC [v]) := by
    refine EvAt.one (B := w.heap.size) ?_ (Nat.le_succ _)
    rw [Below.heap_alloc _ _ _ (by simp; have := hsz.out; omega), heap_setCell_other _ _ _ _ (by simp; omega), heap_setCell_other _ _ _ _ (by simp; omega)]
    exact HE.out
  have hnews : ∀ j u, (evV ⟨7, Cm.noF, 0⟩)[j]? = some u → (((w1.setCell ⟨p, 0, none⟩ (.int .i64 5)).setCell ⟨p, 4, none⟩ (.bool false)).alloc (.cells #[.int .i64 7, .bool false, .int .u32 0, .bool false, .string ⟨#[]⟩, .int .i64 0] 60)).cell? ((⟨w1.heap.size, 0, none⟩ : Addr).add j) = some u := by
    have h2 := heap_alloc_new ((w1.setCell ⟨p, 0, none⟩ (.int .i64 5)).setCell ⟨p, 4, none⟩ (.bool false)) (.cells #[.int .i64 7, .bool false, .int .u32 0, .bool false, .string ⟨#[]⟩, .int .i64 0] 60)
    rw [show ((w1.setCell ⟨p, 0, none⟩ (.int .i64 5)).setCell ⟨p, 4, none⟩ (.bool false)).heap.size = w1.heap.size by simp] at h2
    exact World.news_of_block h2
  have HM2 : Hid (MRow (((w1.setCell ⟨p, 0, none⟩ (.int .i64 5)).setCell ⟨p, 4, none⟩ (.bool false)).alloc (.cells #[.int .i64 7, .bool false, .int .u32 0, .bool false, .string ⟨#[]⟩, .int .i64 0] 60)) p (mcs 5 6 fi false false x n r d out at_ ar q tk s g)) := ((HM1.out.set 0 _).set 4 _).on ((Below.refl _ _).alloc (Nat.le_refl _) _)
  have HB2 : Hid (But p w (((w1.setCell ⟨p, 0, none⟩ (.int .i64 5)).setCell ⟨p, 4, none⟩ (.bool false)).alloc (.cells #[.int .i64 7, .bool false, .int .u32 0, .bool false, .string ⟨#[]⟩, .int .i64 0] 60))) := (HB1.out.set1.set1).trans (But.of_below ((Below.refl _ _).alloc (Nat.le_refl _) _))
  have hmx : 1 + 1 ≤ maxLen := by decide
  go_wp2_with (at_builtin; refine wpList_append_lies _ rfl (.tmp 28) (.tmp 30) 43 rfl w.heap.size 60 i0 (.agg #[.int .i64 0, .bool false, .int .u32 0, .bool false, .string ⟨#[]⟩, .int .i64 0]) 6 48 Tryz.underlying43 hi hz0 hz1 hz2 rfl (by decide) (.slice (some ⟨w.heap.size + 1, 0, none⟩) 1 1) 1 (evC [v]) rfl hown ⟨w1.heap.size, 0, none⟩ 1 1 (evV ⟨7, Cm.noF, 0⟩) rfl rfl hnews (ev_oneCell _) (by decide) hmx (by decide) (by simp; have := hsz.out; omega) _ rfl ?_; intro gg cap w3 hown3 hgrow hat hlt3)
  have HM3 := HM2.out.grown hgrow (by show some (w.heap.size + 1) ≠ some p; intro e; injection e; omega)
  have HB3 := HB2.out.grown hgrow (fun j e => by have e : some (w.heap.size + 1) = some j := e; injection e; omega)
  have hge : w.heap.size ≤ gg := by
    rcases hat with e | e
    · have e : some (w.heap.size + 1) = some gg := e
      injection e; omega
    · have := hsz.out
      simp at e
      omega
  have HE3 : EvAt w.heap.size w3 (some ⟨gg, 0, none⟩) cap [v, ⟨7, Cm.noF, 0⟩] := hown3
  clear hown3 hgrow hat HM2 HB2 hown hnews
  go_ret
  exact ⟨_, _, rfl, HE3, (fun b o e => by injection e with e; injection e with e; omega), HB3, HM3⟩
end Go.Proofs.YthkaekpoicodeaaGreatDoor
/- The document's own node on the wire: begin, over its text. -/
namespace Go.Proofs.YthkaekpoicodeaaGreatDoor
open Go.RowKit
set_option linter.unusedVariables false
theorem But.past {p g : Nat} {a b c : World} (h : But p a b) (k : But g b c) (hg : a.heap.size ≤ g) : But p a c :=
  ⟨k.1.trans h.1, k.2.1.trans h.2.1, k.2.2.1.trans h.2.2.1, Nat.le_trans h.2.2.2.1 k.2.2.2.1, fun j hj hn => (k.2.2.2.2 j (Nat.lt_of_lt_of_le hj h.2.2.2.1) (by omega)).trans (h.2.2.2.2 j hj hn)⟩
/-- The reader's first bit, a 0. -/
theorem next_first (g : Nat) (w : World) (h : w.heap[g]? = some (.cells (rdc ⟨#[]⟩ Cm.Rd.new []) 89 (0, 0))) :
    Calls Tryz.prog 67 #[bptr g, .int .u8 48] w fun e w' => e = .returned (.int .i64 0) ∧ (∃ S R, w'.heap[g]? = some (.cells (rdc S (Mm.feed [false]) R) 89 (0, 0)) ∧ Inv (Mm.feed [false]) R S.size ∧ S.size = 1) ∧ But g w w' := by
  refine (next_bit g ⟨#[]⟩ (by decide) Cm.Rd.new [] 48 w inv_new h).mono ?_
  rintro e w1 ⟨rfl, h2, h3⟩
  obtain ⟨R, h4, h5⟩ := h2 (by decide)
  exact ⟨rfl, ⟨_, R, h4, h5 (by decide), rfl⟩, h3⟩
theorem begin_end {w W : World} {p q : Nat} {cs : Array Value} (HM : MRow W p cs) (HB : But p w W) (HR : ∃ S R, W.heap[q]? = some (.cells (rdc S (Mm.feed [false]) R) 89 (0, 0)) ∧ Inv (Mm.feed [false]) R S.size ∧ S.size = 1) (hq : w.heap.size ≤ q) :
    EvAt w.heap.size (W.alloc (.cells #[.int .i64 6, .bool false, .int .u32 0, .bool false, .string ⟨#[]⟩, .int .i64 0] 60)) (some ⟨W.heap.size, 0, none⟩) 1 [⟨6, Cm.noF, 0⟩] ∧ w.heap.size ≤ q ∧ q < (W.alloc (.cells #[.int .i64 6, .bool false, .int .u32 0, .bool false, .string ⟨#[]⟩, .int .i64 0] 60)).heap.size ∧
    (∃ S R, (W.alloc (.cells #[.int .i64 6, .bool false, .int .u32 0, .bool false, .string ⟨#[]⟩, .int .i64 0] 60)).heap[q]? = some (.cells (rdc S (Mm.feed [false]) R) 89 (0, 0)) ∧ Inv (Mm.feed [false]) R S.size ∧ S.size = 1) ∧
    But p w (W.alloc (.cells #[.int .i64 6, .bool false, .int .u32 0, .bool false, .string ⟨#[]⟩, .int .i64 0] 60)) ∧ MRow (W.alloc (.cells #[.int .i64 6, .bool false, .int .u32 0, .bool false, .string ⟨#[]⟩, .int .i64 0] 60)) p cs := by
  obtain ⟨S, R, e1, e2⟩ := HR
  have hl : q < W.heap.size := (Array.getElem?_eq_some_iff.1 e1).1
  have hb : Below W.heap.size W (W.alloc (.cells #[.int .i64 6, .bool false, .int .u32 0, .bool false, .string ⟨#[]⟩, .int .i64 0] 60)) := (Below.refl _ _).alloc (Nat.le_refl _) _
  exact ⟨EvAt.one (v := ⟨6, Cm.noF, 0⟩) (heap_alloc_new _ _) HB.2.2.2.1, hq, Nat.lt_of_lt_of_le hl hb.size, ⟨S, R, (hb.block q hl).trans e1, e2⟩, HB.trans (But.of_below hb), HM.on hb⟩
set_option maxRecDepth 100000 in
set_option maxHeartbeats 2000000 in
theorem rbegin0_any (w : World) (p : Nat) (ph lf : Int) (fi sd hh x : Bool) (n : Int) (r : Bool) (d out : ByteArray) (at_ ar : Int) (q : Nat) (tk : Bool) (s g : Int) (h : MRow w p (mcs ph lf fi sd hh x n r d out at_ ar q tk s g)) :
    Calls Tryz.prog 45 #[bptr p, .bool false] w fun e w' => ∃ sl cap q', e = .returned (.slice sl 1 cap) ∧ EvAt w.heap.size w' sl cap [⟨6, Cm.noF, 0⟩] ∧ w.heap.size ≤ q' ∧ q' < w'.heap.size ∧
      (∃ S R, w'.heap[q']? = some (.cells (rdc S (Mm.feed [false]) R) 89 (0, 0)) ∧ Inv (Mm.feed [false]) R S.size ∧ S.size = 1) ∧ But p w w' ∧ MRow w' p (mcs 1 lf fi false hh x n r d out at_ ar q' false s g) := by
  have hlt := h.lt
  have HM : Hid (MRow w p (mcs ph lf fi sd hh x n r d out at_ ar q tk s g)) := h
  have c0 : w.cell? ⟨p, 0, none⟩ = some (.int .i64 ph) := h.c 0 _ rfl
  have f0 : w.frozen? ⟨p, 0, none⟩ = false := h.f 0
  have c3 : w.cell? ⟨p, 3, none⟩ = some (.bool sd) := h.c 3 _ rfl
  have f3 : w.frozen? ⟨p, 3, none⟩ = false := h.f 3
  have c12 : w.cell? ⟨p, 12, none⟩ = some (.pointer (some ⟨q, 0, none⟩)) := h.c 12 _ rfl
  have f12 : w.frozen? ⟨p, 12, none⟩ = false := h.f 12
  have c13 : w.cell? ⟨p, 13, none⟩ = some (.bool tk) := h.c 13 _ rfl
  have f13 : w.frozen? ⟨p, 13, none⟩ = false := h.f 13
  clear h
  go_enter Tryz.func45, Tryz.ntmps45
  go_wp2_with fail
  refine (newreader_any _).mono ?_
  rintro e w1 ⟨rfl, h1, hb1⟩
  have ez : ((w.setCell ⟨p, 0, none⟩ (.int .i64 1)).setCell ⟨p, 13, none⟩ (.bool false)).heap.size = w.heap.size := by simp
  have HM1 : MRow w1 p (mcs 1 lf fi sd hh x n r d out at_ ar q false s g) := ((HM.out.set 0 _).set 13 _).on hb1
  have HB1 : But p w w1 := ((But.refl p w).set1.set1).trans (But.of_below hb1)
  rw [ez] at h1 ⊢
  have hl1 : w.heap.size < w1.heap.size := (Array.getElem?_eq_some_iff.1 h1).1
  clear hb1 ez c0 c3 c12 c13 f0 f3 f12 f13 HM
  have hpw : p ≠ w.heap.size := Nat.ne_of_lt hlt
  have ca3 : w1.cell? ⟨p, 3, none⟩ = some (.bool sd) := HM1.c 3 _ rfl
  have fa3 : w1.frozen? ⟨p, 3, none⟩ = false := HM1.f 3
  have ca12 : w1.cell? ⟨p, 12, none⟩ = some (.pointer (some ⟨q, 0, none⟩)) := HM1.c 12 _ rfl
  have fa12 : w1.frozen? ⟨p, 12, none⟩ = false := HM1.f 12
  have HMa : Hid (MRow w1 p (mcs 1 lf fi sd hh x n r d out at_ ar q false s g)) := HM1
  have HBa : Hid (But p w w1) := HB1
  have HRa : Hid (w1.heap[w.heap.size]? = some (.cells (rdc ⟨#[]⟩ Cm.Rd.new []) 89 (0, 0))) := h1
  clear HM1 HB1 h1
  go_wp2_with fail
  refine (next_first w.heap.size _ ((heap_setCell_other _ _ _ _ (by simp; omega)).trans HRa.out)).mono ?_
  rintro e w2 ⟨rfl, h2, hb2⟩
  have HM2 : MRow w2 p (mcs 1 lf fi sd hh x n r d out at_ ar w.heap.size false s g) := (HMa.out.set 12 _).but hb2 hpw
  have HB2 : Hid (But p w w2) := (HBa.out.set1).past hb2 (Nat.le_refl _)
  have cb3 : w2.cell? ⟨p, 3, none⟩ = some (.bool sd) := HM2.c 3 _ rfl
  have fb3 : w2.frozen? ⟨p, 3, none⟩ = false := HM2.f 3
  have HMb : Hid (MRow w2 p (mcs 1 lf fi sd hh x n r d out at_ ar w.heap.size false s g)) := HM2
  have HR2 : Hid (∃ S R, w2.heap[w.heap.size]? = some (.cells (rdc S (Mm.feed [false]) R) 89 (0, 0)) ∧ Inv (Mm.feed [false]) R S.size ∧ S.size = 1) := h2
  clear h2 hb2 HM2 HMa HBa HRa ca3 ca12 fa3 fa12
  go_wp2
  go_ret
  have ez : (w2.setCell ⟨p, 3, none⟩ (.bool false)).heap.size = w2.heap.size := by simp
  have E := begin_end (w := w) (q := w.heap.size) (HMb.out.set 3 (.bool false)) (HB2.out.set1 (k := 3) (v := .bool false)) (by obtain ⟨S, R, e1, e2⟩ := HR2.out; exact ⟨S, R, (heap_setCell_other _ _ _ _ (by simp; omega)).trans e1, e2⟩) (Nat.le_refl _)
  rw [ez] at E
  exact ⟨_, _, _, rfl, E⟩
end Go.Proofs.YthkaekpoicodeaaGreatDoor
/- The document's own node on the wire: begin, sending, over its text. -/
namespace Go.Proofs.YthkaekpoicodeaaGreatDoor
open Go.RowKit
set_option linter.unusedVariables false
theorem fr_n {f : Cm.Fr} (h : Mm.isFr f = true) : f.2.1 < 4294967296 := by
  have h1 := (Fm.isF_parts h).1
  have h2 : Fm.top f.1 ≤ 4294967296 := by cases f.1 <;> decide
  omega
set_option maxRecDepth 100000 in
set_option maxHeartbeats 2000000 in
theorem rbegin1_any (w : World) (p : Nat) (ph lf : Int) (fi sd hh : Bool) (f : Cm.Fr) (hF : Mm.isFr f = true) (out : ByteArray) (at_ ar : Int) (q : Nat) (tk : Bool) (s g : Int) (h : MRow w p (mcs ph lf fi sd hh f.1 f.2.1 f.2.2.1 ⟨f.2.2.2.toArray⟩ out at_ ar q tk s g)) :
    Calls Tryz.prog 45 #[bptr p, .bool true] w fun e w' => ∃ sl cap q', e = .returned (.slice sl 1 cap) ∧ EvAt w.heap.size w' sl cap [⟨6, Cm.noF, 0⟩] ∧ w.heap.size ≤ q' ∧ q' < w'.heap.size ∧
      (∃ S R, w'.heap[q']? = some (.cells (rdc S (Mm.feed [false]) R) 89 (0, 0)) ∧ Inv (Mm.feed [false]) R S.size ∧ S.size = 1) ∧ But p w w' ∧ MRow w' p (mcs 1 lf fi true false f.1 f.2.1 f.2.2.1 ⟨f.2.2.2.toArray⟩ ⟨(Bm.row (Mm.outB f)).toArray⟩ 1 (Mm.arbL f) q' false s g) := by
  have hn := fr_n hF
  have HE : Hid (∀ w, Calls Tryz.prog 68 #[.agg #[.bool f.1, .int .u32 (f.2.1 : Int), .bool f.2.2.1, .string ⟨f.2.2.2.toArray⟩]] w fun e w' => e = .returned (.string ⟨(Bm.row (Mm.outB f)).toArray⟩) ∧ Below w.heap.size w w') := fun w => by
    have h := refFEnc_any f.1 f.2.1 f.2.2.1 ⟨f.2.2.2.toArray⟩ w hn
    rw [show (ByteArray.mk f.2.2.2.toArray).data.toList = f.2.2.2 from by simp] at h
    have e : Cm.enc f.1 f.2.1 f.2.2.1 f.2.2.2 = Mm.outB f := by unfold Cm.enc; exact if_pos hF
    rw [e] at h
    exact h
  have HA : Hid (∀ w, Calls Tryz.prog 70 #[.agg #[.bool f.1, .int .u32 (f.2.1 : Int), .bool f.2.2.1, .string ⟨f.2.2.2.toArray⟩]] w fun e w' => e = .returned (.string ⟨(Bm.row (Fm.arb0 f.1 f.2.1 f.2.2.1)).toArray⟩) ∧ Below w.heap.size w w') := fun w => by
    have h := refFArb_any f.1 f.2.1 f.2.2.1 ⟨f.2.2.2.toArray⟩ w hn
    rw [show (ByteArray.mk f.2.2.2.toArray).data.toList = f.2.2.2 from by simp] at h
    have e : Fm.arb f.1 f.2.1 f.2.2.1 f.2.2.2 = Fm.arb0 f.1 f.2.1 f.2.2.1 := by unfold Fm.arb; exact if_pos hF
    rw [e] at h
    exact h
  have HS : Hid (∀ w, Calls Tryz.prog 69 #[.string ⟨(Bm.row (Fm.arb0 f.1 f.2.1 f.2.2.1)).toArray⟩] w fun e w' => (∃ T : ByteArray, e = .returned (.string T) ∧ (T.size : Int) = (Mm.arbL f : Int)) ∧ Below w.heap.size w w') := fun w => by
    refine (rstuff_any ⟨(Bm.row (Fm.arb0 f.1 f.2.1 f.2.2.1)).toArray⟩ w ?_).mono ?_
    · show (Bm.row (Fm.arb0 f.1 f.2.1 f.2.2.1)).toArray.size ≤ _
      simp only [Bm.row, List.size_toArray, List.length_map, Fm.length_arb0]
      split <;> decide
    · rintro e w1 ⟨rfl, hb⟩
      refine ⟨⟨_, rfl, ?_⟩, hb⟩
      rw [read_mk]
      show (((Bm.row (Sm.stuff (Fm.arb0 f.1 f.2.1 f.2.2.1))).toArray.size : Nat) : Int) = _
      simp [Bm.row, Mm.arbL]
  clear hn hF
  generalize ByteArray.mk (Bm.row (Mm.outB f)).toArray = TO at *
  generalize ByteArray.mk (Bm.row (Fm.arb0 f.1 f.2.1 f.2.2.1)).toArray = TA at *
  generalize Mm.arbL f = AL at *
  generalize ByteArray.mk f.2.2.2.toArray = d at *
  generalize f.1 = x at *
  generalize hfn : f.2.1 = n at *
  generalize f.2.2.1 = r at *
  clear hfn f
  have hlt := h.lt
  have HM : Hid (MRow w p (mcs ph lf fi sd hh x n r d out at_ ar q tk s g)) := h
  have c0 : w.cell? ⟨p, 0, none⟩ = some (.int .i64 ph) := h.c 0 _ rfl
  have f0 : w.frozen? ⟨p, 0, none⟩ = false := h.f 0
  have c3 : w.cell? ⟨p, 3, none⟩ = some (.bool sd) := h.c 3 _ rfl
  have f3 : w.frozen? ⟨p, 3, none⟩ = false := h.f 3
  have c12 : w.cell? ⟨p, 12, none⟩ = some (.pointer (some ⟨q, 0, none⟩)) := h.c 12 _ rfl
  have f12 : w.frozen? ⟨p, 12, none⟩ = false := h.f 12
  have c13 : w.cell? ⟨p, 13, none⟩ = some (.bool tk) := h.c 13 _ rfl
  have f13 : w.frozen? ⟨p, 13, none⟩ = false := h.f 13
  clear h
  go_enter Tryz.func45, Tryz.ntmps45
  go_wp2_with fail
  refine (newreader_any _).mono ?_
  rintro e w1 ⟨rfl, h1, hb1⟩
  have ez : ((w.setCell ⟨p, 0, none⟩ (.int .i64 1)).setCell ⟨p, 13, none⟩ (.bool false)).heap.size = w.heap.size := by simp
  have HM1 : MRow w1 p (mcs 1 lf fi sd hh x n r d out at_ ar q false s g) := ((HM.out.set 0 _).set 13 _).on hb1
  have HB1 : But p w w1 := ((But.refl p w).set1.set1).trans (But.of_below hb1)
  rw [ez] at h1 ⊢
  have hl1 : w.heap.size < w1.heap.size := (Array.getElem?_eq_some_iff.1 h1).1
  clear hb1 ez c0 c3 c12 c13 f0 f3 f12 f13 HM
  have hpw : p ≠ w.heap.size := Nat.ne_of_lt hlt
  have ca3 : w1.cell? ⟨p, 3, none⟩ = some (.bool sd) := HM1.c 3 _ rfl
  have fa3 : w1.frozen? ⟨p, 3, none⟩ = false := HM1.f 3
  have ca12 : w1.cell? ⟨p, 12, none⟩ = some (.pointer (some ⟨q, 0, none⟩)) := HM1.c 12 _ rfl
  have fa12 : w1.frozen? ⟨p, 12, none⟩ = false := HM1.f 12
  have HMa : Hid (MRow w1 p (mcs 1 lf fi sd hh x n r d out at_ ar q false s g)) := HM1
  have HBa : Hid (But p w w1) := HB1
  have HRa : Hid (w1.heap[w.heap.size]? = some (.cells (rdc ⟨#[]⟩ Cm.Rd.new []) 89 (0, 0))) := h1
  clear HM1 HB1 h1
  go_wp2_with fail
  refine (next_first w.heap.size _ ((heap_setCell_other _ _ _ _ (by simp; omega)).trans HRa.out)).mono ?_
  rintro e w2 ⟨rfl, h2, hb2⟩
  have HM2 : MRow w2 p (mcs 1 lf fi sd hh x n r d out at_ ar w.heap.size false s g) := (HMa.out.set 12 _).but hb2 hpw
  have HB2 : Hid (But p w w2) := (HBa.out.set1).past hb2 (Nat.le_refl _)
  have cb3 : w2.cell? ⟨p, 3, none⟩ = some (.bool sd) := HM2.c 3 _ rfl
  have fb3 : w2.frozen? ⟨p, 3, none⟩ = false := HM2.f 3
  have cb4 : w2.cell? ⟨p, 4, none⟩ = some (.bool hh) := HM2.c 4 _ rfl
  have fb4 : w2.frozen? ⟨p, 4, none⟩ = false := HM2.f 4
  have cb5 : w2.cell? ⟨p, 5, none⟩ = some (.bool x) := HM2.c 5 _ rfl
  have fb5 : w2.frozen? ⟨p, 5, none⟩ = false := HM2.f 5
  have cb6 : w2.cell? ⟨p, 6, none⟩ = some (.int .u32 n) := HM2.c 6 _ rfl
  have fb6 : w2.frozen? ⟨p, 6, none⟩ = false := HM2.f 6
  have cb7 : w2.cell? ⟨p, 7, none⟩ = some (.bool r) := HM2.c 7 _ rfl
  have fb7 : w2.frozen? ⟨p, 7, none⟩ = false := HM2.f 7
  have cb8 : w2.cell? ⟨p, 8, none⟩ = some (.string d) := HM2.c 8 _ rfl
  have fb8 : w2.frozen? ⟨p, 8, none⟩ = false := HM2.f 8
  have cb9 : w2.cell? ⟨p, 9, none⟩ = some (.string out) := HM2.c 9 _ rfl
  have fb9 : w2.frozen? ⟨p, 9, none⟩ = false := HM2.f 9
  have cb10 : w2.cell? ⟨p, 10, none⟩ = some (.int .i64 at_) := HM2.c 10 _ rfl
  have fb10 : w2.frozen? ⟨p, 10, none⟩ = false := HM2.f 10
  have cb11 : w2.cell? ⟨p, 11, none⟩ = some (.int .i64 ar) := HM2.c 11 _ rfl
  have fb11 : w2.frozen? ⟨p, 11, none⟩ = false := HM2.f 11
  have HMb : Hid (MRow w2 p (mcs 1 lf fi sd hh x n r d out at_ ar w.heap.size false s g)) := HM2
  have HR2 : Hid (∃ S R, w2.heap[w.heap.size]? = some (.cells (rdc S (Mm.feed [false]) R) 89 (0, 0)) ∧ Inv (Mm.feed [false]) R S.size ∧ S.size = 1) := h2
  clear h2 hb2 HM2 HMa HBa HRa ca3 ca12 fa3 fa12
  go_wp2_with fail
  refine (HE.out _).mono ?_
  rintro e w3 ⟨rfl, hb3⟩
  have hpw' : ¬ w.heap.size = p := fun e => hpw e.symm
  have HM3 : MRow w3 p (mcs 1 lf fi true false x n r d out at_ ar w.heap.size false s g) := ((HMb.out.set 3 _).set 4 _).on hb3
  have HB3 : Hid (But p w w3) := (HB2.out.set1.set1).join hb3
  have HR3 : Hid (∃ S R, w3.heap[w.heap.size]? = some (.cells (rdc S (Mm.feed [false]) R) 89 (0, 0)) ∧ Inv (Mm.feed [false]) R S.size ∧ S.size = 1) := by
    obtain ⟨S, R, e1, e2⟩ := HR2.out
    exact ⟨S, R, (hb3.block _ (by simp; exact (Array.getElem?_eq_some_iff.1 e1).1)).trans ((heap_setCell_other _ _ _ _ (by simp; omega)).trans ((heap_setCell_other _ _ _ _ (by simp; omega)).trans e1)), e2⟩
  have cc5 : w3.cell? ⟨p, 5, none⟩ = some (.bool x) := HM3.c 5 _ rfl
  have fc5 : w3.frozen? ⟨p, 5, none⟩ = false := HM3.f 5
  have cc6 : w3.cell? ⟨p, 6, none⟩ = some (.int .u32 n) := HM3.c 6 _ rfl
  have fc6 : w3.frozen? ⟨p, 6, none⟩ = false := HM3.f 6
  have cc7 : w3.cell? ⟨p, 7, none⟩ = some (.bool r) := HM3.c 7 _ rfl
  have fc7 : w3.frozen? ⟨p, 7, none⟩ = false := HM3.f 7
  have cc8 : w3.cell? ⟨p, 8, none⟩ = some (.string d) := HM3.c 8 _ rfl
  have fc8 : w3.frozen? ⟨p, 8, none⟩ = false := HM3.f 8
  have cc9 : w3.cell? ⟨p, 9, none⟩ = some (.string out) := HM3.c 9 _ rfl
  have fc9 : w3.frozen? ⟨p, 9, none⟩ = false := HM3.f 9
  have cc10 : w3.cell? ⟨p, 10, none⟩ = some (.int .i64 at_) := HM3.c 10 _ rfl
  have fc10 : w3.frozen? ⟨p, 10, none⟩ = false := HM3.f 10
  have cc11 : w3.cell? ⟨p, 11, none⟩ = some (.int .i64 ar) := HM3.c 11 _ rfl
  have fc11 : w3.frozen? ⟨p, 11, none⟩ = false := HM3.f 11
  have HMc : Hid (MRow w3 p (mcs 1 lf fi true false x n r d out at_ ar w.heap.size false s g)) := HM3
  clear HM3 hb3 HMb HB2 HR2 HE cb3 cb4 cb5 cb6 cb7 cb8 cb9 cb10 cb11 fb3 fb4 fb5 fb6 fb7 fb8 fb9 fb10 fb11
  go_wp2_with fail
  refine (HA.out _).mono ?_
  rintro e w4 ⟨rfl, hb4⟩
  have HMd : Hid (MRow w4 p (mcs 1 lf fi true false x n r d TO 1 ar w.heap.size false s g)) := ((HMc.out.set 9 _).set 10 _).on hb4
  have HB4 : Hid (But p w w4) := (HB3.out.set1.set1).join hb4
  have HR4 : Hid (∃ S R, w4.heap[w.heap.size]? = some (.cells (rdc S (Mm.feed [false]) R) 89 (0, 0)) ∧ Inv (Mm.feed [false]) R S.size ∧ S.size = 1) := by
    obtain ⟨S, R, e1, e2⟩ := HR3.out
    exact ⟨S, R, (hb4.block _ (by simp; exact (Array.getElem?_eq_some_iff.1 e1).1)).trans ((heap_setCell_other _ _ _ _ (by simp; omega)).trans ((heap_setCell_other _ _ _ _ (by simp; omega)).trans e1)), e2⟩
  clear hb4 HMc HB3 HR3 HA cc5 cc6 cc7 cc8 cc9 cc10 cc11 fc5 fc6 fc7 fc8 fc9 fc10 fc11
  go_wp2_with fail
  refine (HS.out _).mono ?_
  rintro e w5 ⟨⟨T, rfl, hTs⟩, hb5⟩
  have HM5 : MRow w5 p (mcs 1 lf fi true false x n r d TO 1 ar w.heap.size false s g) := HMd.out.on hb5
  have HB5 : Hid (But p w w5) := HB4.out.join hb5
  have HR5 : Hid (∃ S R, w5.heap[w.heap.size]? = some (.cells (rdc S (Mm.feed [false]) R) 89 (0, 0)) ∧ Inv (Mm.feed [false]) R S.size ∧ S.size = 1) := by
    obtain ⟨S, R, e1, e2⟩ := HR4.out
    exact ⟨S, R, (hb5.block _ (Array.getElem?_eq_some_iff.1 e1).1).trans e1, e2⟩
  have HMe : Hid (MRow w5 p (mcs 1 lf fi true false x n r d TO 1 ar w.heap.size false s g)) := HM5
  have ce11 : w5.cell? ⟨p, 11, none⟩ = some (.int .i64 ar) := HM5.c 11 _ rfl
  have fe11 : w5.frozen? ⟨p, 11, none⟩ = false := HM5.f 11
  have HTs : Hid ((T.size : Int) = (AL : Int)) := hTs
  clear hb5 HMd HB4 HR4 HS HM5 hTs
  go_wp2
  go_ret
  rw [HTs.out]
  have ez : (w5.setCell ⟨p, 11, none⟩ (.int .i64 (AL : Int))).heap.size = w5.heap.size := by simp
  have E := begin_end (w := w) (q := w.heap.size) (HMe.out.set 11 (.int .i64 (AL : Int))) (HB5.out.set1 (k := 11) (v := .int .i64 (AL : Int))) (by obtain ⟨S, R, e1, e2⟩ := HR5.out; exact ⟨S, R, (heap_setCell_other _ _ _ _ (by simp; omega)).trans e1, e2⟩) (Nat.le_refl _)
  rw [ez] at E
  exact ⟨_, _, _, rfl, E⟩
end Go.Proofs.YthkaekpoicodeaaGreatDoor
