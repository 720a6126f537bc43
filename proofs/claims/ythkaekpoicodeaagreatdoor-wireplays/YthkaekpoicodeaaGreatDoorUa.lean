/- The document's own node on the wire: hearing whole, by the plain state. -/
import Derived.Test.YthkaekpoicodeaaGreatDoorUk
import Derived.Test.YthkaekpoicodeaaGreatDoorNe
import Derived.Deep.RegionHeld3
import Derived.Test.YthkaekpoicodeaaGreatDoorN12
import Derived.Test.YthkaekpoicodeaaGreatDoorUb
namespace Go.Proofs.YthkaekpoicodeaaGreatDoor
open Go.RowKit
set_option linter.unusedVariables false
/-- The node's cells in a plain state. -/
def mst (m : Mm.St) (out : ByteArray) (at_ ar : Int) (q : Nat) : Array Value := mcs (phI m.ph) m.left m.first m.snd m.has m.f.1 m.f.2.1 m.f.2.2.1 ⟨m.f.2.2.2.toArray⟩ out at_ ar q m.tk m.cs m.cg
theorem EvAt.none (B : Nat) (w : World) : EvAt B w none 0 [] := ⟨rfl, Or.inl ⟨rfl, rfl⟩⟩
theorem But.kept {p q : Nat} {a b : World} (h : But p a b) : Kept (fun j => j = p ∨ j = q) a b := ⟨h.1, h.2.1, h.2.2.1, h.2.2.2.1, fun k hk hn => h.2.2.2.2 k hk (fun e => hn (Or.inl e))⟩
theorem But.kept' {p q : Nat} {a b : World} (h : But q a b) : Kept (fun j => j = p ∨ j = q) a b := ⟨h.1, h.2.1, h.2.2.1, h.2.2.2.1, fun k hk hn => h.2.2.2.2 k hk (fun e => hn (Or.inr e))⟩
/-- What a call on the node is said to tell, and to leave. -/
def RTold (w : World) (p q : Nat) (r : Mm.St × List Mm.Ev) (e : Ending) (w' : World) (out : ByteArray) (at_ ar : Int) : Prop :=
  ∃ sl cap, e = .returned (.slice sl r.2.length cap) ∧ EvAt w.heap.size w' sl cap r.2 ∧ Kept (fun j => j = p ∨ j = q) w w' ∧ (r.1.ph = .inFr → RdAt w' q r.1.bits) ∧ MRow w' p (mst r.1 out at_ ar q)
theorem rhear_st (w : World) (p q : Nat) (m : Mm.St) (out : ByteArray) (at_ ar : Int) (c : Bool) (hp : m.ph = .inFr) (hpq : p ≠ q) (hr : RdAt w q m.bits) (hl : m.bits.length < 1000) (h : MRow w p (mst m out at_ ar q)) :
    Calls Tryz.prog 47 #[bptr p, .bool c] w fun e w' => RTold w p q (Mm.hearing m c) e w' out at_ ar := by
  unfold RTold Mm.hearing
  obtain ⟨ph, left, first, snd, has, tk, f, bits, cs, cg⟩ := m
  obtain rfl : ph = .inFr := hp
  cases tk with
  | true =>
    simp only [if_true]
    refine (rhear0_any w p _ _ _ _ _ _ _ _ _ _ _ _ _ _ _ c h).mono ?_
    rintro e w' ⟨rfl, hb, hm⟩
    exact ⟨none, 0, rfl, EvAt.none _ _, hb.kept, fun hx => (by cases hx), hm⟩
  | false =>
    simp only [Bool.false_eq_true, if_false]
    by_cases hc : Mm.code bits c = 0
    · rw [if_neg (by simpa using hc)]
      by_cases ht : (Mm.feed (bits ++ [c])).t = some 9
      · rw [if_pos ht]
        refine (rhear2_any w p _ _ _ _ _ _ _ _ _ _ _ _ _ _ _ bits c hpq hr hl hc ht h).mono ?_
        rintro e w' ⟨sl, cap, rfl, he, _, hk, hrd, hm⟩
        exact ⟨sl, cap, rfl, he, hk, fun _ => hrd, hm⟩
      · rw [if_neg ht]
        refine (rhear3_any w p _ _ _ _ _ _ _ _ _ _ _ _ _ _ _ bits c hpq hr hl hc ht h).mono ?_
        rintro e w' ⟨rfl, hb, hrd, hm⟩
        exact ⟨none, 0, rfl, EvAt.none _ _, hb.kept', fun _ => hrd, hm⟩
    · rw [if_pos hc]
      obtain ⟨S, R, e1, e2, e3⟩ := hr
      refine (rhear1_any w p _ _ _ _ _ _ _ _ _ _ _ _ _ _ _ bits c hpq S R e1 e2 e3 hl hc h).mono ?_
      rintro e w' ⟨sl, cap, rfl, he, _, hk, hm⟩
      unfold Mm.bad badE badP badH at *
      dsimp only at *
      cases ho : Km.offC cs
      · rw [ho] at he hm
        simp only [Bool.false_eq_true, if_false] at he hm ⊢
        exact ⟨sl, cap, rfl, he, hk, fun hx => (by cases hx), hm⟩
      · rw [ho] at he hm
        simp only [if_true] at he hm ⊢
        exact ⟨sl, cap, rfl, he, hk, fun hx => (by cases hx), hm⟩
end Go.Proofs.YthkaekpoicodeaaGreatDoor
/- The document's own node on the wire: sending, over its text: the arbitration lost. -/
namespace Go.Proofs.YthkaekpoicodeaaGreatDoor
open Go.RowKit
set_option linter.unusedVariables false
theorem hearing_f (m : Mm.St) (c : Bool) : (Mm.hearing m c).1.f = m.f := by
  unfold Mm.hearing Mm.bad
  split
  · rfl
  · split
    · split <;> rfl
    · split <;> rfl
theorem hearing_short (m : Mm.St) (c : Bool) : (Mm.hearing m c).2.length ≤ 2 := by
  unfold Mm.hearing Mm.bad
  split
  · simp
  · split
    · split <;> simp
    · split <;> simp
/-- The frame's cells lie in the node's. -/
def FR (w : World) (p : Nat) (f : Cm.Fr) : Prop := ∃ cs, MRow w p cs ∧ cs[5]? = some (.bool f.1) ∧ cs[6]? = some (.int .u32 (f.2.1 : Int)) ∧ cs[7]? = some (.bool f.2.2.1) ∧ cs[8]? = some (.string ⟨f.2.2.2.toArray⟩)
theorem FR.alloc {w : World} {p : Nat} {f : Cm.Fr} (h : FR w p f) (o : Obj) : FR (w.alloc o) p f := by
  obtain ⟨cs, hM, hc⟩ := h
  exact ⟨cs, hM.on ((Below.refl _ _).alloc (Nat.le_refl _) _), hc⟩
theorem FR.drew {w : World} {p : Nat} {f : Cm.Fr} (h : FR w p f) : FR w.drew p f := h
theorem FR.of {w : World} {p q : Nat} {m : Mm.St} {f : Cm.Fr} {out : ByteArray} {at_ ar : Int} (h : MRow w p (mst m out at_ ar q)) (hf : m.f = f) : FR w p f := by
  subst hf
  exact ⟨_, h, rfl, rfl, rfl, rfl⟩
theorem FR.c {w : World} {p : Nat} {f : Cm.Fr} (h : FR w p f) : w.cell? ⟨p, 5, none⟩ = some (.bool f.1) ∧ w.cell? ⟨p, 6, none⟩ = some (.int .u32 (f.2.1 : Int)) ∧ w.cell? ⟨p, 7, none⟩ = some (.bool f.2.2.1) ∧ w.cell? ⟨p, 8, none⟩ = some (.string ⟨f.2.2.2.toArray⟩) := by
  obtain ⟨cs, hM, h5, h6, h7, h8⟩ := h
  exact ⟨hM.c 5 _ h5, hM.c 6 _ h6, hM.c 7 _ h7, hM.c 8 _ h8⟩
theorem FR.grown {w w' : World} {p b : Nat} {f : Cm.Fr} (h : FR w p f) (g : w.grownBy w' ((some (⟨b, 0, none⟩ : Addr)).map (·.block))) (hb : p ≠ b) : FR w' p f := by
  obtain ⟨cs, hM, hc⟩ := h
  exact ⟨cs, hM.grown g (fun e => hb (by injection e with e; exact e.symm)), hc⟩
/-- Behind hearing, ahead of the append. -/
structure Lost (w w6 : World) (p q b : Nat) (m' : Mm.St) (evs : List Mm.Ev) (ev : Mm.Ev) (sl : Option Addr) (cap : Nat) (T : ByteArray) (a r : Int) : Prop where
  kept : Kept (fun j => j = p ∨ j = q) w w6
  lp : p < w.heap.size
  lq : q < w.heap.size
  lb : w.heap.size ≤ b
  one : EvAt w.heap.size w6 (some ⟨b, 0, none⟩) 1 [ev]
  two : EvAt w.heap.size w6 sl cap evs
  row : MRow w6 p (mst m' T a r q)
  rd : m'.ph = .inFr → RdAt w6 q m'.bits
theorem Lost.done {w w6 w7 : World} {p q b : Nat} {m' : Mm.St} {evs : List Mm.Ev} {ev : Mm.Ev} {sl : Option Addr} {cap : Nat} {T : ByteArray} {a r : Int} (h : Lost w w6 p q b m' evs ev sl cap T a r) {s' : Option Addr} {c' : Nat} (hE : EvAt w.heap.size w7 s' c' ([ev] ++ evs)) (g : w6.grownBy w7 ((some (⟨b, 0, none⟩ : Addr)).map (·.block))) :
    RTold w p q (m', ev :: evs) (.returned (.slice s' (1 + evs.length) c')) w7 T a r := by
  have lp := h.lp
  have lq := h.lq
  have lb := h.lb
  refine ⟨s', c', ?_, hE, ⟨g.os.trans h.kept.os, g.tape.trans h.kept.tape, g.output.trans h.kept.output, Nat.le_trans h.kept.size g.size, fun j hj hn => ?_⟩, fun hp => ?_, ?_⟩
  · show _ = Ending.returned (.slice s' (evs.length + 1) c'); rw [Nat.add_comm]
  · exact (g.block j (Nat.lt_of_lt_of_le hj h.kept.size) (fun e => by injection e with e; dsimp only at e; omega)).trans (h.kept.block j hj hn)
  · exact (h.rd hp).on (g.block q (Nat.lt_of_lt_of_le lq h.kept.size) (fun e => by injection e with e; dsimp only at e; omega))
  · exact h.row.grown g (fun e => by injection e with e; dsimp only at e; omega)
abbrev lostO (f : Cm.Fr) : Obj := .cells #[.int .i64 3, .bool f.1, .int .u32 (f.2.1 : Int), .bool f.2.2.1, .string ⟨f.2.2.2.toArray⟩, .int .i64 0] 60
/-- The row of one was made ahead of hearing. -/
theorem Lost.ahead {w w5 w6 : World} {p q : Nat} {m' : Mm.St} {evs : List Mm.Ev} {f : Cm.Fr} {sl : Option Addr} {cap : Nat} {T : ByteArray} {a r : Int} (hB : But p w w5) (lp : p < w.heap.size) (lq : q < w.heap.size)
    (hK : Kept (fun j => j = p ∨ j = q) ((w5.alloc (lostO f)).drew) w6) (hE : EvAt ((w5.alloc (lostO f)).drew).heap.size w6 sl cap evs) (hM : MRow w6 p (mst m' T a r q)) (hR : m'.ph = .inFr → RdAt w6 q m'.bits) : Lost w w6 p q w5.heap.size m' evs ⟨3, f, 0⟩ sl cap T a r := by
  have hs : w.heap.size ≤ w5.heap.size := hB.2.2.2.1
  have h5 : Kept (fun j => j = p ∨ j = q) w ((w5.alloc (lostO f)).drew) := hB.kept.trans (G := fun _ => False) (Kept.of_below (((Below.refl _ _).alloc (Nat.le_refl _) _).drew)) (fun g h => h.elim)
  refine ⟨h5.trans hK (fun g h => Or.inl h), lp, lq, hs, EvAt.one (v := ⟨3, f, 0⟩) ?_ hs, hE.base (by simp; omega), hM, hR⟩
  have e : ((w5.alloc (lostO f)).drew).heap[w5.heap.size]? = some (lostO f) := heap_alloc_new w5 _
  rw [hK.block w5.heap.size (by simp) (by omega), e]
  rfl
/-- The row of one was made behind hearing. -/
theorem Lost.behind {w w5 w6 : World} {p q : Nat} {m' : Mm.St} {evs : List Mm.Ev} {f : Cm.Fr} {sl : Option Addr} {cap : Nat} {T : ByteArray} {a r : Int} (hB : But p w w5) (lp : p < w.heap.size) (lq : q < w.heap.size)
    (hK : Kept (fun j => j = p ∨ j = q) w5.drew w6) (hE : EvAt w5.drew.heap.size w6 sl cap evs) (hM : MRow w6 p (mst m' T a r q)) (hR : m'.ph = .inFr → RdAt w6 q m'.bits) : Lost w (w6.alloc (lostO f)) p q w6.heap.size m' evs ⟨3, f, 0⟩ sl cap T a r := by
  have hs : w.heap.size ≤ w5.heap.size := hB.2.2.2.1
  have hs6 : w5.heap.size ≤ w6.heap.size := hK.size
  have hb : Below w6.heap.size w6 (w6.alloc (lostO f)) := (Below.refl _ _).alloc (Nat.le_refl _) _
  have h5 : Kept (fun j => j = p ∨ j = q) w w5.drew := hB.kept.trans (G := fun _ => False) (Kept.of_below ((Below.refl _ _).drew)) (fun g h => h.elim)
  have h6 : Kept (fun j => j = p ∨ j = q) w w6 := h5.trans hK (fun g h => Or.inl h)
  refine ⟨h6.trans (G := fun _ => False) (Kept.of_below hb) (fun g h => h.elim), lp, lq, by omega, EvAt.one (v := ⟨3, f, 0⟩) (heap_alloc_new _ _) (by omega), ?_, hM.on hb, fun hp => (hR hp).on (hb.block q (hR hp).lt)⟩
  refine (hE.base (by exact hs)).on (fun g o e => ?_)
  exact hb.block g (hE.zero g o e).2.2
set_option maxRecDepth 100000 in
set_option maxHeartbeats 4000000 in
theorem rsend0_any (w : World) (p q : Nat) (m : Mm.St) (k ar : Nat) (hp : m.ph = .inFr) (hs : m.snd = true) (hk : k < (Mm.outB m.f).length) (hL2 : (Mm.outB m.f).length ≤ 200) (har : ar ≤ 200)
    (hD : (Mm.outB m.f).getD k true = true) (hka : k + 1 ≤ ar) (hpq : p ≠ q) (hr : RdAt w q m.bits) (hbl : m.bits.length < 1000)
    (h : MRow w p (mst m ⟨(Bm.row (Mm.outB m.f)).toArray⟩ k ar q)) :
    Calls Tryz.prog 46 #[bptr p, .bool false] w fun e w' => RTold w p q ((Mm.hearing { m with snd := false } false).1, ⟨3, m.f, 0⟩ :: (Mm.hearing { m with snd := false } false).2) e w' ⟨(Bm.row (Mm.outB m.f)).toArray⟩ ((k : Int) + 1) ar := by
  have HIx : ∀ W, (Instr.index 9 (.string ⟨(Bm.row (Mm.outB m.f)).toArray⟩) (.int .i64 (k : Int))).run Tryz.prog W = .ok (.int .u8 49) W := fun W => by
    rw [idx_row (Mm.outB m.f) k hk W, hD]; rfl
  have HH : Hid (∀ w1 out, RdAt w1 q m.bits → MRow w1 p (mst { m with snd := false } out ((k : Int) + 1) ar q) → Calls Tryz.prog 47 #[bptr p, .bool false] w1 fun e w' => RTold w1 p q (Mm.hearing { m with snd := false } false) e w' out ((k : Int) + 1) ar) := fun w1 out h1 h2 => rhear_st w1 p q _ out _ _ false hp hpq h1 hbl h2
  have Hf := hearing_f { m with snd := false } false
  have Hn := hearing_short { m with snd := false } false
  have HR : Hid (RdAt w q m.bits) := hr
  have hqp : ¬ q = p := fun e => hpq e.symm
  have hlt := h.lt
  have hle : decide (((k : Int) + 1) ≤ (ar : Int)) = true := decide_eq_true (by omega)
  generalize Mm.hearing { m with snd := false } false = r at *
  obtain ⟨m', evs⟩ := r
  dsimp only at Hf Hn
  obtain ⟨ph, lf, fi, sd, hh, tk, f, bits, s, g⟩ := m
  dsimp only at *
  have HM : Hid (MRow w p (mcs (phI ph) lf fi true hh f.1 f.2.1 f.2.2.1 ⟨f.2.2.2.toArray⟩ ⟨(Bm.row (Mm.outB f)).toArray⟩ k ar q tk s g)) := by have := h; rw [hs] at this; exact this
  have HC : Hid (∀ w', Below w.heap.size w w' → w'.cell? ⟨p, 9, none⟩ = some (.string ⟨(Bm.row (Mm.outB f)).toArray⟩) ∧ w'.cell? ⟨p, 10, none⟩ = some (.int .i64 (k : Int))) := fun w' hb => ⟨(HM.out.on hb).c 9 _ rfl, (HM.out.on hb).c 10 _ rfl⟩
  clear h hr hs hp hD hbl
  generalize ByteArray.mk (Bm.row (Mm.outB f)).toArray = T at *
  generalize (Mm.outB f).length = L at *
  go_enter Tryz.func46, Tryz.ntmps46
  go_wp2_with fail
  refine Lw.wp_region_quiet_below (by kernel_rfl) (by kernel_rfl) ?_
  repeat (first
    | go_big_quiet_skip
    | (go_big_quiet_want; go_big_quiet_op; go_big_quiet_on)
    | (go_big_quiet_want; go_big_quiet_op; apply Exists.intro; refine ⟨fun _ hb' => ?_, ?_⟩; (first
      | exact Lw.val_rfl _
      | (simp [go_sem, (HC.out _ hb').1]; rfl)
      | (simp [go_sem, (HC.out _ hb').2]; rfl)
      | (simp [go_sem, HIx]; rfl)); go_big_quiet_on))
  refine wpQuiet_nil ?_
  intro w2 hb2
  have hm := HM.out.on hb2
  have HM2 : Hid (MRow w2 p _) := hm
  have HB2 : Hid (But p w w2) := But.of_below hb2
  have ca10 : w2.cell? ⟨p, 10, none⟩ = some (.int .i64 k) := hm.c 10 _ rfl
  have fa10 : w2.frozen? ⟨p, 10, none⟩ = false := hm.f 10
  clear hm hb2 HC HIx
  go_wp2_with fail
  have HM3 : Hid (MRow (w2.setCell ⟨p, 10, none⟩ (.int .i64 ((k : Int) + 1))) p (mcs (phI ph) lf fi true hh f.1 f.2.1 f.2.2.1 ⟨f.2.2.2.toArray⟩ T ((k : Int) + 1) ar q tk s g)) := HM2.out.set 10 _
  have HB3 : Hid (But p w (w2.setCell ⟨p, 10, none⟩ (.int .i64 ((k : Int) + 1)))) := HB2.out.set1
  clear HM2 HB2 ca10 fa10
  generalize w2.setCell ⟨p, 10, none⟩ (.int .i64 ((k : Int) + 1)) = w3 at HM3 HB3 ⊢
  have HC3 : Hid (∀ w', Below w3.heap.size w3 w' → w'.cell? ⟨p, 10, none⟩ = some (.int .i64 ((k : Int) + 1)) ∧ w'.cell? ⟨p, 11, none⟩ = some (.int .i64 (ar : Int))) := fun w' hb => ⟨(HM3.out.on hb).c 10 _ rfl, (HM3.out.on hb).c 11 _ rfl⟩
  refine Lw.wp_region_quiet_below (by kernel_rfl) (by kernel_rfl) ?_
  repeat (first
    | go_big_quiet_skip
    | (go_big_quiet_want; go_big_quiet_op; go_big_quiet_on)
    | (go_big_quiet_want; go_big_quiet_op; apply Exists.intro; refine ⟨fun _ hb' => ?_, ?_⟩; (first
      | exact Lw.val_rfl _
      | (simp [go_sem, (HC3.out _ hb').1]; rfl)
      | (simp [go_sem, (HC3.out _ hb').2]; rfl)); go_big_quiet_on))
  refine wpQuiet_nil ?_
  intro w4 hb4
  have hm := HM3.out.on hb4
  have HM4 : Hid (MRow w4 p _) := hm
  have HB4 : Hid (But p w w4) := HB3.out.join hb4
  have cb3 : w4.cell? ⟨p, 3, none⟩ = some (.bool true) := hm.c 3 _ rfl
  have fb3 : w4.frozen? ⟨p, 3, none⟩ = false := hm.f 3
  clear hm hb4 HM3 HB3 HC3
  go_wp2_with fail
  have HM5 : Hid (MRow (w4.setCell ⟨p, 3, none⟩ (.bool false)) p (mcs (phI ph) lf fi false hh f.1 f.2.1 f.2.2.1 ⟨f.2.2.2.toArray⟩ T ((k : Int) + 1) ar q tk s g)) := HM4.out.set 3 _
  have HB5 : Hid (But p w (w4.setCell ⟨p, 3, none⟩ (.bool false))) := HB4.out.set1
  have HR5 : Hid (RdAt (w4.setCell ⟨p, 3, none⟩ (.bool false)) q bits) := HR.out.on (HB5.out.2.2.2.2 q HR.out.lt hqp)
  clear HM4 HB4 cb3 fb3
  generalize w4.setCell ⟨p, 3, none⟩ (.bool false) = w5 at HM5 HB5 HR5 ⊢
  have HF5 : Hid (FR w5 p f) := ⟨_, HM5.out, rfl, rfl, rfl, rfl⟩
  have lq := HR.out.lt
  have HA5 : Hid (RdAt ((w5.alloc (lostO f)).drew) q bits) := HR5.out.on (Below.heap_alloc _ _ _ HR5.out.lt)
  have HMA : Hid (MRow ((w5.alloc (lostO f)).drew) p (mcs (phI ph) lf fi false hh f.1 f.2.1 f.2.2.1 ⟨f.2.2.2.toArray⟩ T ((k : Int) + 1) ar q tk s g)) := HM5.out.on (((Below.refl _ _).alloc (Nat.le_refl _) _).drew)
  go_region_held3 (fun w' => w'.cell? ⟨p, 5, none⟩ = some (.bool f.1) ∧ w'.cell? ⟨p, 6, none⟩ = some (.int .u32 (f.2.1 : Int)) ∧ w'.cell? ⟨p, 7, none⟩ = some (.bool f.2.2.1) ∧ w'.cell? ⟨p, 8, none⟩ = some (.string ⟨f.2.2.2.toArray⟩))
    ((refine FR.c ?_; repeat (first | with_reducible exact HF5.out | with_reducible exact HF6.out | with_reducible exact HF7.out | with_reducible refine FR.drew ?_ | with_reducible refine FR.alloc ?_ _)))
    (first
      | (go_at_call 47; refine (HH.out _ T (by first | exact HA5.out | exact HR5.out) (by first | exact HMA.out | exact HM5.out)).mono ?_; rintro e w6 ⟨sl, cap, rfl, hE, hK, hrd, hM⟩; have HF6 : Hid (FR w6 p f) := FR.of hM Hf; (first | (have HX : Hid (Lost w w6 p q w5.heap.size m' evs ⟨3, f, 0⟩ sl cap T ((k : Int) + 1) ar) := (by show Lost _ _ _ _ _ _ _ _ _ _ _ _ _; with_reducible exact Lost.ahead HB5.out hlt lq hK hE hM hrd)) | (have HX : Hid (Lost w (w6.alloc (lostO f)) p q w6.heap.size m' evs ⟨3, f, 0⟩ sl cap T ((k : Int) + 1) ar) := (by show Lost _ _ _ _ _ _ _ _ _ _ _ _ _; with_reducible exact Lost.behind HB5.out hlt lq hK hE hM hrd))); clear hE hK hrd hM)
      | (refine step_append_ev rfl (.tmp 49) (.tmp 52) rfl (s := some ⟨_, 0, none⟩) (n := 1) (cap := 1) rfl rfl (l := [⟨3, f, 0⟩]) (l2 := evs) rfl rfl HX.out.one HX.out.two (Nat.le_trans HX.out.kept.size (Nat.le_refl _)) (by simp; omega) ?_; intro s' cap' w7 hE7 hG7 hA7; have HF7 : Hid (FR w7 p f) := FR.grown (by first | exact HF6.out | exact HF6.out.alloc _) hG7 (by have := HX.out.lb; have := HX.out.lp; omega); have HZ : Hid (RTold w p q (m', ⟨3, f, 0⟩ :: evs) (.returned (.slice s' (1 + evs.length) cap')) w7 T ((k : Int) + 1) ar) := HX.out.done hE7 hG7; clear hE7 hG7 hA7))
  all_goals
    go_wp2
    go_ret
    exact HZ.out
end Go.Proofs.YthkaekpoicodeaaGreatDoor
/- The document's own node on the wire: sending and Sample whole, by the plain state. -/
namespace Go.Proofs.YthkaekpoicodeaaGreatDoor
open Go.RowKit
set_option linter.unusedVariables false
theorem rsend_st (w : World) (p q : Nat) (m : Mm.St) (c : Bool) (hO : Mm.Ok m) (hs : m.snd = true) (hpq : p ≠ q) (hr : RdAt w q m.bits) (h : MRow w p (mst m ⟨(Bm.row (Mm.outB m.f)).toArray⟩ m.bits.length (Mm.arbL m.f) q)) :
    Calls Tryz.prog 46 #[bptr p, .bool c] w fun e w' => ∃ at', RTold w p q (Mm.sending m c) e w' ⟨(Bm.row (Mm.outB m.f)).toArray⟩ at' (Mm.arbL m.f) ∧ ((Mm.sending m c).1.snd = true → at' = ((Mm.sending m c).1.bits.length : Int) ∧ (Mm.sending m c).1.f = m.f) := by
  obtain ⟨hp, htk, hf, hb, hl⟩ := hO.snd hs
  have hL := Mm.out_len hf
  have hA := Mm.arb_le m.f
  have hbl : m.bits.length < 1000 := by omega
  have hM : MRow w p (mcs (phI m.ph) m.left m.first true m.has m.f.1 m.f.2.1 m.f.2.2.1 ⟨m.f.2.2.2.toArray⟩ ⟨(Bm.row (Mm.outB m.f)).toArray⟩ m.bits.length (Mm.arbL m.f) q m.tk m.cs m.cg) := by have := h; unfold mst at this; rw [hs] at this; exact this
  by_cases c1 : (Mm.outB m.f).getD m.bits.length true = true ∧ c = false ∧ m.bits.length + 1 ≤ Mm.arbL m.f
  · obtain ⟨d1, rfl, d3⟩ := c1
    have e : Mm.sending m false = ((Mm.hearing { m with snd := false } false).1, ⟨3, m.f, 0⟩ :: (Mm.hearing { m with snd := false } false).2) := by unfold Mm.sending; rw [if_pos ⟨d1, rfl, d3⟩]
    rw [e]
    refine (rsend0_any w p q m m.bits.length (Mm.arbL m.f) hp hs hl hL.2 (by omega) d1 d3 hpq hr hbl h).mono ?_
    intro e w' hR
    refine ⟨_, hR, fun k => ?_⟩
    exfalso
    have k' : (Mm.hearing { m with snd := false } false).1.snd = true := k
    unfold Mm.hearing Mm.bad at k'
    dsimp only at k'
    rw [htk] at k'
    simp only [Bool.false_eq_true, if_false] at k'
    split at k'
    · split at k' <;> cases k'
    · split at k' <;> cases k'
  · by_cases c2 : m.bits.length + 1 = (Mm.outB m.f).length - 8 ∧ c = true
    · have e : Mm.sending m c = Mm.bad { m with cs := Km.sentS m.cs m.cg false } ⟨4, m.f, 71⟩ := by unfold Mm.sending; rw [if_neg c1, if_pos c2]
      rw [e]
      refine (rsend1_any w p _ _ _ _ m.f q _ _ _ m.bits.length (Mm.arbL m.f) 71 c hl hL.1 hL.2 (by omega) c1 (Or.inl ⟨c2.1, c2.2, rfl⟩) hM).mono ?_
      rintro e w' ⟨sl, cap, rfl, he, _, hk, at', hm⟩
      refine ⟨at', ?_, ?_⟩
      · unfold RTold
        unfold Mm.bad badE badP badH at *
        dsimp only at *
        cases ho : Km.offC (Km.sentS m.cs m.cg false)
        · rw [ho] at he hm
          simp only [Bool.false_eq_true, if_false] at he hm ⊢
          exact ⟨sl, cap, rfl, he, hk.kept, fun hx => (by cases hx), hm⟩
        · rw [ho] at he hm
          simp only [if_true] at he hm ⊢
          exact ⟨sl, cap, rfl, he, hk.kept, fun hx => (by cases hx), hm⟩
      · unfold Mm.bad
        split <;> (intro k; cases k)
    · by_cases c3 : m.bits.length + 1 ≠ (Mm.outB m.f).length - 8 ∧ (Mm.outB m.f).getD m.bits.length true ≠ c
      · have e : Mm.sending m c = Mm.bad { m with cs := Km.sentS m.cs m.cg false } ⟨4, m.f, 70⟩ := by unfold Mm.sending; rw [if_neg c1, if_neg c2, if_pos c3]
        rw [e]
        refine (rsend1_any w p _ _ _ _ m.f q _ _ _ m.bits.length (Mm.arbL m.f) 70 c hl hL.1 hL.2 (by omega) c1 (Or.inr ⟨c3.1, c3.2, rfl⟩) hM).mono ?_
        rintro e w' ⟨sl, cap, rfl, he, _, hk, at', hm⟩
        refine ⟨at', ?_, ?_⟩
        · unfold RTold
          unfold Mm.bad badE badP badH at *
          dsimp only at *
          cases ho : Km.offC (Km.sentS m.cs m.cg false)
          · rw [ho] at he hm
            simp only [Bool.false_eq_true, if_false] at he hm ⊢
            exact ⟨sl, cap, rfl, he, hk.kept, fun hx => (by cases hx), hm⟩
          · rw [ho] at he hm
            simp only [if_true] at he hm ⊢
            exact ⟨sl, cap, rfl, he, hk.kept, fun hx => (by cases hx), hm⟩
        · unfold Mm.bad
          split <;> (intro k; cases k)
      · have hx := Mm.send_bit hO hs c2 c3
        by_cases c4 : m.bits.length + 1 = (Mm.outB m.f).length
        · have e : Mm.sending m c = ({ m with bits := m.bits ++ [c], cs := Km.sentS m.cs m.cg true, snd := false, ph := .pause, left := 3 }, [⟨1, m.f, 0⟩]) := by unfold Mm.sending; rw [if_neg c1, if_neg c2, if_neg c3, if_pos c4]
          rw [e]
          have hD : (Mm.outB m.f).getD m.bits.length true = c := Classical.byContradiction fun k => c3 ⟨by omega, k⟩
          refine (rsend3_any w p _ _ _ _ m.f q _ _ _ m.bits.length (Mm.arbL m.f) c hl hL.1 hL.2 (by omega) c1 hD c4 m.bits hpq hr hbl hM).mono ?_
          rintro e w' ⟨sl, cap, rfl, he, _, hk, hm⟩
          exact ⟨_, ⟨sl, cap, rfl, he, hk, fun hx => (by cases hx), hm⟩, fun k => (by cases k)⟩
        · have e : Mm.sending m c = ({ m with bits := m.bits ++ [c] }, []) := by unfold Mm.sending; rw [if_neg c1, if_neg c2, if_neg c3, if_neg c4]
          rw [e]
          have hE : (m.bits.length + 1 = (Mm.outB m.f).length - 8 ∧ c = false) ∨ (m.bits.length + 1 ≠ (Mm.outB m.f).length - 8 ∧ (Mm.outB m.f).getD m.bits.length true = c) := by
            by_cases k : m.bits.length + 1 = (Mm.outB m.f).length - 8
            · left; refine ⟨k, ?_⟩; cases c
              · rfl
              · exact absurd ⟨k, rfl⟩ c2
            · right; exact ⟨k, Classical.byContradiction fun k2 => c3 ⟨k, k2⟩⟩
          have hG : Mm.Good (m.bits ++ [c]) := by rw [hx]; exact Mm.ack_good hf _ (by omega)
          have hco : Mm.code m.bits c = 0 := (Mm.good_snoc (Mm.good_front hG)).1 hG
          refine (rsend2_any w p _ _ _ _ m.f q _ _ _ m.bits.length (Mm.arbL m.f) c hl hL.1 hL.2 (by omega) c1 hE c4 m.bits hpq hr hbl hco hM).mono ?_
          rintro e w' ⟨rfl, hk, hrd, hm⟩
          refine ⟨(m.bits.length : Int) + 1, ⟨none, 0, rfl, EvAt.none _ _, hk, fun _ => hrd, ?_⟩, fun _ => ⟨?_, rfl⟩⟩
          · unfold mst; rw [hs]; exact hm
          · show _ = ((m.bits ++ [c]).length : Int); rw [List.length_append]; rfl
set_option maxRecDepth 100000 in
set_option maxHeartbeats 2000000 in
theorem rsampFr_any (w : World) (p q : Nat) (m : Mm.St) (out : ByteArray) (at_ ar : Int) (c : UInt8) (hp : m.ph = .inFr) (h : MRow w p (mst m out at_ ar q)) (R : Option Addr → Nat → Nat → World → Prop)
    (HS : m.snd = true → Calls Tryz.prog 46 #[bptr p, .bool (c != 48)] w fun e w' => ∃ sl n cap, e = .returned (.slice sl n cap) ∧ R sl n cap w')
    (HH : m.snd = false → Calls Tryz.prog 47 #[bptr p, .bool (c != 48)] w fun e w' => ∃ sl n cap, e = .returned (.slice sl n cap) ∧ R sl n cap w') :
    Calls Tryz.prog 31 #[bptr p, .int .u8 (c.toNat : Int)] w fun e w' => ∃ sl n cap, e = .returned (.slice sl n cap) ∧ R sl n cap w' := by
  have h48 := one_of c
  obtain ⟨ph, lf, fi, sd, hh, tk, f, bits, s, g⟩ := m
  obtain rfl : ph = .inFr := hp
  have c0 : w.cell? ⟨p, 0, none⟩ = some (.int .i64 1) := h.c 0 _ rfl
  have c3 : w.cell? ⟨p, 3, none⟩ = some (.bool sd) := h.c 3 _ rfl
  dsimp only at HS HH
  clear h
  cases sd
  · have HC : Hid (∀ _ : Unit, _) := fun _ : Unit => HH rfl
    clear HS HH
    generalize (c != 48) = b at *
    go_enter Tryz.func31, Tryz.ntmps31
    go_wp2_with fail
    refine (HC.out ()).mono ?_
    rintro e w1 ⟨sl, n, cap, rfl, h1⟩
    have HE : Hid (R sl n cap w1) := h1
    clear h1 HC c0 c3 h48
    go_wp2
    go_ret
    exact ⟨_, _, _, rfl, HE.out⟩
  · have HC : Hid (∀ _ : Unit, _) := fun _ : Unit => HS rfl
    clear HS HH
    generalize (c != 48) = b at *
    go_enter Tryz.func31, Tryz.ntmps31
    go_wp2_with fail
    refine (HC.out ()).mono ?_
    rintro e w1 ⟨sl, n, cap, rfl, h1⟩
    have HE : Hid (R sl n cap w1) := h1
    clear h1 HC c0 c3 h48
    go_wp2
    go_ret
    exact ⟨_, _, _, rfl, HE.out⟩
end Go.Proofs.YthkaekpoicodeaaGreatDoor
/- The document's own node on the wire, whole, by the plain state. -/
namespace Go.Proofs.YthkaekpoicodeaaGreatDoor
open Go.RowKit
set_option linter.unusedVariables false
/-- The document's node at block p, its blocks F, in the plain state m. -/
def RAt (w : World) (p : Nat) (F : Nat → Prop) (m : Mm.St) : Prop := ∃ q, RMac w p q m ∧ F = fun j => j = p ∨ j = q
theorem RMac.mk' {w : World} {p q : Nat} {m : Mm.St} {out : ByteArray} {at_ ar : Int} (ok : Mm.Ok m) (ne : p ≠ q) (lt : q < w.heap.size) (h : MRow w p (mst m out at_ ar q)) (hs : m.snd = true → out = ⟨(Bm.row (Mm.outB m.f)).toArray⟩ ∧ at_ = (m.bits.length : Int) ∧ ar = (Mm.arbL m.f : Int)) (hr : m.ph = .inFr → RdAt w q m.bits) : RMac w p q m :=
  ⟨ok, ne, lt, ⟨out, at_, ar, h, hs⟩, hr⟩
theorem RMac.rowAt {w : World} {p q : Nat} {m : Mm.St} (h : RMac w p q m) : ∃ out at_ ar, MRow w p (mst m out at_ ar q) ∧ (m.snd = true → out = ⟨(Bm.row (Mm.outB m.f)).toArray⟩ ∧ at_ = (m.bits.length : Int) ∧ ar = (Mm.arbL m.f : Int)) := h.row
theorem RMac.on {w w' : World} {p q : Nat} {m : Mm.St} (h : RMac w p q m) (hp : w'.heap[p]? = w.heap[p]?) (hq : w'.heap[q]? = w.heap[q]?) : RMac w' p q m := by
  obtain ⟨out, at_, ar, hm, hs⟩ := h.rowAt
  refine RMac.mk' h.ok h.ne ?_ (hp.trans hm) hs (fun k => RdAt.on (h.rd k) hq)
  have : w'.heap[q]? = some (w.heap[q]'h.lt) := by rw [hq]; exact Array.getElem?_eq_getElem h.lt
  exact (Array.getElem?_eq_some_iff.1 this).1
theorem RAt.on {w w' : World} {p : Nat} {F : Nat → Prop} {m : Mm.St} (h : RAt w p F m) (hk : ∀ g, F g → w'.heap[g]? = w.heap[g]?) : RAt w' p F m := by
  obtain ⟨q, h, rfl⟩ := h
  exact ⟨q, h.on (hk p (Or.inl rfl)) (hk q (Or.inr rfl)), rfl⟩
theorem RAt.lt {w : World} {p : Nat} {F : Nat → Prop} {m : Mm.St} (h : RAt w p F m) : ∀ g, F g → g < w.heap.size := by
  obtain ⟨q, h, rfl⟩ := h
  obtain ⟨out, at_, ar, hm, hs⟩ := h.rowAt
  rintro g (rfl | rfl)
  · exact hm.lt
  · exact h.lt
theorem RAt.ok {w : World} {p : Nat} {F : Nat → Prop} {m : Mm.St} (h : RAt w p F m) : Mm.Ok m := by
  obtain ⟨q, h, rfl⟩ := h
  exact h.ok
theorem RAt.state {w : World} {p : Nat} {F : Nat → Prop} {m : Mm.St} (h : RAt w p F m) : w.cell? ⟨p, 0, none⟩ = some (.int .i64 (phI m.ph)) := by
  obtain ⟨q, h, rfl⟩ := h
  obtain ⟨out, at_, ar, hm, hs⟩ := h.rowAt
  exact hm.c 0 _ rfl
theorem RAt.sent {w : World} {p : Nat} {F : Nat → Prop} {m : Mm.St} (h : RAt w p F m) : w.cell? ⟨p, 14, none⟩ = some (.int .i64 m.cs) := by
  obtain ⟨q, h, rfl⟩ := h
  obtain ⟨out, at_, ar, hm, hs⟩ := h.rowAt
  exact hm.c 14 _ rfl
theorem RAt.got {w : World} {p : Nat} {F : Nat → Prop} {m : Mm.St} (h : RAt w p F m) : w.cell? ⟨p, 15, none⟩ = some (.int .i64 m.cg) := by
  obtain ⟨q, h, rfl⟩ := h
  obtain ⟨out, at_, ar, hm, hs⟩ := h.rowAt
  exact hm.c 15 _ rfl
theorem rat_new (w : World) : Calls Tryz.prog 21 #[] w fun e w' => ∃ p F, e = .returned (bptr p) ∧ RAt w' p F Mm.fresh ∧ (∀ g, F g → w.heap.size ≤ g) ∧ Below w.heap.size w w' := by
  refine (rnew_any w).mono ?_
  rintro e w' ⟨p, q, rfl, h1, h2, h3, h4, h5, h6⟩
  refine ⟨p, _, rfl, ⟨q, RMac.mk' Mm.ok_fresh h3 h4 h5 (fun k => by cases k) (fun k => by cases k), rfl⟩, ?_, h6⟩
  rintro g (rfl | rfl)
  · exact h1
  · exact h2
theorem RMac.but {w w' : World} {p q : Nat} {m m' : Mm.St} {out : ByteArray} {at_ ar : Int} (h : RMac w p q m) (ok : Mm.Ok m') (hb : But p w w') (hm : MRow w' p (mst m' out at_ ar q)) (hs : m'.snd = true → out = ⟨(Bm.row (Mm.outB m'.f)).toArray⟩ ∧ at_ = (m'.bits.length : Int) ∧ ar = (Mm.arbL m'.f : Int)) (hr : m'.ph = .inFr → m.ph = .inFr ∧ m'.bits = m.bits) : RMac w' p q m' :=
  RMac.mk' ok h.ne (Nat.lt_of_lt_of_le h.lt hb.2.2.2.1) hm hs (fun k => by
    rw [(hr k).2]
    exact RdAt.on (h.rd (hr k).1) (hb.2.2.2.2 q h.lt (fun e => h.ne e.symm)))
theorem rat_ask (w : World) (p : Nat) (F : Nat → Prop) (m : Mm.St) (f : Cm.Fr) (h : RAt w p F m) :
    Calls Tryz.prog 8 #[bptr p, frV f] w fun e w' => e = .returned (.int .i64 ((Mm.ask m f).1 : Int)) ∧ ∃ F', RAt w' p F' (Mm.ask m f).2 ∧ (∀ g, F' g → F g ∨ w.heap.size ≤ g) ∧ Kept F w w' := by
  obtain ⟨q, h, rfl⟩ := h
  obtain ⟨out, at_, ar, hm, hs⟩ := h.rowAt
  refine (rask_any w p m.ph m.left m.first m.snd m.has _ _ _ _ out at_ ar q m.tk m.cs m.cg f _ rfl hm).mono ?_
  rintro e w' ⟨rfl, hb, hm'⟩
  have ok := Mm.ok_ask h.ok f
  unfold askK askC at *
  unfold Mm.ask at *
  by_cases c1 : m.ph = .off
  · rw [if_pos c1] at hm' ok
    rw [if_pos c1, if_pos c1]
    exact ⟨rfl, _, ⟨q, h.but ok hb hm' hs (fun k => ⟨k, rfl⟩), rfl⟩, fun g hg => Or.inl hg, hb.kept⟩
  · rw [if_neg c1] at hm' ok
    rw [if_neg c1, if_neg c1]
    by_cases c2 : Mm.isFr f = false
    · rw [if_pos c2] at hm' ok
      rw [if_pos c2, if_pos c2]
      exact ⟨rfl, _, ⟨q, h.but ok hb hm' hs (fun k => ⟨k, rfl⟩), rfl⟩, fun g hg => Or.inl hg, hb.kept⟩
    · rw [if_neg c2] at hm' ok
      rw [if_neg c2, if_neg c2]
      unfold Mm.busy at *
      cases c3 : (m.has || m.snd)
      · rw [c3] at hm' ok
        simp only [Bool.false_eq_true, if_false] at hm' ok ⊢
        have hsn : m.snd = false := by
          cases k : m.snd
          · rfl
          · rw [k] at c3; simp at c3
        exact ⟨rfl, _, ⟨q, h.but ok hb hm' (fun k => by have k' : m.snd = true := k; rw [hsn] at k'; cases k') (fun k => ⟨k, rfl⟩), rfl⟩, fun g hg => Or.inl hg, hb.kept⟩
      · rw [c3] at hm' ok
        simp only [if_true] at hm' ok ⊢
        exact ⟨rfl, _, ⟨q, h.but ok hb hm' hs (fun k => ⟨k, rfl⟩), rfl⟩, fun g hg => Or.inl hg, hb.kept⟩
theorem rat_drive (w : World) (p : Nat) (F : Nat → Prop) (m : Mm.St) (h : RAt w p F m) : Calls Tryz.prog 30 #[bptr p] w fun e w' => e = .returned (.int .u8 (if Mm.drive m then 49 else 48)) ∧ Below w.heap.size w w' := by
  obtain ⟨q, h, rfl⟩ := h
  exact rdrive_any w p q m h
/-- Where events lie there is no node and no reader. -/
theorem EvAt.apart {B : Nat} {w : World} {s : Option Addr} {cap : Nat} {l : List Mm.Ev} (h : EvAt B w s cap l) {g o : Nat} (e : s = some ⟨g, o, Option.none⟩) {cs : Array Value} {t : TypeId} {fr : Nat × Nat} (ht : t ≠ 60) : w.heap[g]? ≠ some (.cells cs t fr) := by
  subst e
  rcases h.2 with ⟨h1, _⟩ | ⟨g', c, cur, hv, hB, hh, _⟩
  · injection h1 with a b c; cases a
  · injection hv with a b c
    injection a with a
    injection a with a1 a2
    subst a1
    rw [hh]
    intro k
    injection k with k
    injection k with k1 k2 k3
    exact ht k2.symm
/-- What Sample is said to do. -/
def RSamp (w : World) (p : Nat) (F : Nat → Prop) (r : Mm.St × List Mm.Ev) (e : Ending) (w' : World) : Prop :=
  ∃ s cap, e = .returned (.slice s r.2.length cap) ∧ EvAt w.heap.size w' s cap r.2 ∧ ∃ F', RAt w' p F' r.1 ∧ (∀ g, F' g → F g ∨ w.heap.size ≤ g) ∧ (∀ g o, s = some ⟨g, o, none⟩ → ¬ F' g) ∧ Kept F w w'
theorem rsamp_quiet {w w' : World} {p q : Nat} {m m' : Mm.St} {out : ByteArray} {at_ ar : Int} (h : RMac w p q m) (ok : Mm.Ok m') (hb : But p w w') (hm : MRow w' p (mst m' out at_ ar q)) (hs : m'.snd = false) (hr : m'.ph ≠ .inFr) :
    RSamp w p (fun j => j = p ∨ j = q) (m', []) (.returned (.slice none 0 0)) w' :=
  ⟨none, 0, rfl, EvAt.none _ _, _, ⟨q, h.but ok hb hm (fun k => by rw [hs] at k; cases k) (fun k => absurd k hr), rfl⟩, fun g hg => Or.inl hg, fun g o e => (by cases e), hb.kept⟩
theorem rsamp_start {w w' : World} {p q q' : Nat} {m m' : Mm.St} {sl : Option Addr} {cap : Nat} {out : ByteArray} {at_ ar : Int} (h : RMac w p q m) (ok : Mm.Ok m') (hp : p < w.heap.size) (hE : EvAt w.heap.size w' sl cap [⟨6, Cm.noF, 0⟩]) (hq1 : w.heap.size ≤ q') (hq2 : q' < w'.heap.size) (hr : RdAt w' q' m'.bits) (hb : But p w w')
    (hm : MRow w' p (mst m' out at_ ar q')) (hs : m'.snd = true → out = ⟨(Bm.row (Mm.outB m'.f)).toArray⟩ ∧ at_ = (m'.bits.length : Int) ∧ ar = (Mm.arbL m'.f : Int)) :
    RSamp w p (fun j => j = p ∨ j = q) (m', [⟨6, Cm.noF, 0⟩]) (.returned (.slice sl 1 cap)) w' := by
  refine ⟨sl, cap, rfl, hE, fun j => j = p ∨ j = q', ⟨q', RMac.mk' ok (by omega) hq2 hm hs (fun _ => hr), rfl⟩, ?_, ?_, hb.kept⟩
  · rintro g (rfl | rfl)
    · exact Or.inl (Or.inl rfl)
    · exact Or.inr hq1
  · rintro g o e (rfl | rfl)
    · have := (hE.zero _ _ e).2.1; omega
    · obtain ⟨S, R, e1, e2⟩ := hr
      exact hE.apart e (by decide) e1
theorem RTold.samp {w w' : World} {p q : Nat} {m : Mm.St} {r : Mm.St × List Mm.Ev} {e : Ending} {out : ByteArray} {at_ ar : Int} (h : RMac w p q m) (ok : Mm.Ok r.1) (hp : p < w.heap.size) (hT : RTold w p q r e w' out at_ ar) (hs : r.1.snd = true → out = ⟨(Bm.row (Mm.outB r.1.f)).toArray⟩ ∧ at_ = (r.1.bits.length : Int) ∧ ar = (Mm.arbL r.1.f : Int)) :
    RSamp w p (fun j => j = p ∨ j = q) r e w' := by
  obtain ⟨sl, cap, he, hE, hK, hr, hm⟩ := hT
  refine ⟨sl, cap, he, hE, _, ⟨q, RMac.mk' ok h.ne (Nat.lt_of_lt_of_le h.lt hK.size) hm hs hr, rfl⟩, fun g hg => Or.inl hg, ?_, hK⟩
  have hlq := h.lt
  rintro g o e (rfl | rfl)
  · have := (hE.zero _ _ e).2.1; omega
  · have := (hE.zero _ _ e).2.1; omega
theorem rat_sample (w : World) (p : Nat) (F : Nat → Prop) (m : Mm.St) (c : UInt8) (h : RAt w p F m) :
    Calls Tryz.prog 31 #[bptr p, .int .u8 (c.toNat : Int)] w fun e w' => RSamp w p F (Mm.sample m (c != 48)) e w' := by
  obtain ⟨q, h, rfl⟩ := h
  have ok := Mm.ok_sample h.ok (c != 48)
  obtain ⟨out, at_, ar, hm, hs⟩ := h.rowAt
  have hlt := hm.lt
  have hns : m.ph ≠ .inFr → m.snd = false := fun hp => by
    cases k : m.snd
    · rfl
    · exact absurd (h.ok.snd k).1 hp
  cases hph : m.ph with
  | off =>
    have e : Mm.sample m (c != 48) = (m, []) := by unfold Mm.sample; rw [hph]
    rw [e] at ok ⊢
    refine (rsampOff_any w p _ _ _ _ _ _ _ _ _ _ _ q _ _ _ c (by have := hm; unfold mst at this; rw [hph] at this; exact this)).mono ?_
    rintro e w' ⟨rfl, hb, hm'⟩
    exact rsamp_quiet h ok hb (by unfold mst; rw [hph]; exact hm') (hns (by rw [hph]; intro k; cases k)) (by rw [hph]; intro k; cases k)
  | flag =>
    obtain ⟨l1, l6⟩ := h.ok.flag hph
    obtain ⟨l, hl⟩ : ∃ l, m.left = l + 1 := ⟨m.left - 1, by omega⟩
    refine (rsampFlag_any w p l (by omega) _ _ _ _ _ _ _ _ _ _ q _ _ _ c (by have := hm; unfold mst at this; rw [hph, hl] at this; exact this)).mono ?_
    rintro e w' ⟨rfl, hb, hm1, hm2⟩
    unfold Mm.sample at ok ⊢
    rw [hph] at ok ⊢
    dsimp only at ok ⊢
    by_cases k : m.left = 1
    · rw [if_pos k] at ok ⊢
      exact rsamp_quiet h ok hb (hm1 (by omega)) (hns (by rw [hph]; intro k; cases k)) (by intro k; cases k)
    · rw [if_neg k] at ok ⊢
      refine rsamp_quiet h ok hb (by unfold mst; dsimp only; (try rw [hph]); rw [show m.left - 1 = l by omega]; exact hm2 (by omega)) (hns (by rw [hph]; intro k; cases k)) (by dsimp only; (try rw [hph]); intro k; cases k)
  | reco =>
    have hl := h.ok.reco hph
    refine (rsampReco_any w p m.left hl _ _ _ _ _ _ _ _ _ _ q _ _ _ c (by have := hm; unfold mst at this; rw [hph] at this; exact this)).mono ?_
    rintro e w' ⟨rfl, hb, hm'⟩
    unfold Mm.sample at ok ⊢
    rw [hph] at ok ⊢
    dsimp only at ok ⊢
    have hsn : m.snd = false := hns (by rw [hph]; intro k; cases k)
    unfold Mm.recover at ok ⊢
    cases k1 : m.first
    · rw [k1] at hm' ok
      simp only [Bool.false_eq_true, if_false] at hm' ok ⊢
      by_cases k2 : (c != 48) = false
      · rw [if_pos k2] at hm' ok ⊢
        exact rsamp_quiet h ok hb (by unfold mst; dsimp only; (try rw [hph]); (try rw [k1]); exact hm') hsn (by dsimp only; (try rw [hph]); intro k; cases k)
      · rw [if_neg k2] at hm' ok ⊢
        by_cases k3 : m.left = 1
        · rw [if_pos k3] at hm' ok ⊢
          exact rsamp_quiet h ok hb (by unfold mst; dsimp only; (try rw [k1]); exact hm') hsn (by intro k; cases k)
        · rw [if_neg k3] at hm' ok ⊢
          exact rsamp_quiet h ok hb (by unfold mst; dsimp only; (try rw [hph]); (try rw [k1]); rw [show ((m.left - 1 : Nat) : Int) = (m.left : Int) - 1 by omega]; exact hm') hsn (by dsimp only; (try rw [hph]); intro k; cases k)
    · rw [k1] at hm' ok
      simp only [if_true] at hm' ok ⊢
      exact rsamp_quiet h ok hb (by unfold mst; dsimp only; (try rw [hph]); exact hm') hsn (by dsimp only; (try rw [hph]); intro k; cases k)
  | pause =>
    obtain ⟨l1, l6⟩ := h.ok.pause hph
    have hsn : m.snd = false := hns (by rw [hph]; intro k; cases k)
    unfold Mm.sample at ok ⊢
    rw [hph] at ok ⊢
    dsimp only at ok ⊢
    cases hc : (c != 48)
    · rw [hc] at ok
      simp only [if_true] at ok ⊢
      refine (rsampPause0_any w p _ _ _ _ _ _ _ _ _ _ _ q _ _ _ c hc (by have := hm; unfold mst at this; rw [hph] at this; exact this)).mono ?_
      rintro e w' ⟨sl, cap, q', rfl, hE, h1, h2, h3, hb, hm'⟩
      unfold Mm.start at ok ⊢
      simp only [Bool.false_eq_true, if_false] at ok ⊢
      exact rsamp_start h ok hlt hE h1 h2 h3 hb hm' (fun k => (by cases k))
    · rw [hc] at ok
      simp only [Bool.true_eq_false, if_false] at ok ⊢
      obtain ⟨l, hl⟩ : ∃ l, m.left = l + 1 := ⟨m.left - 1, by omega⟩
      refine (rsampPause1_any w p l (by omega) _ _ _ _ _ _ _ _ _ _ q _ _ _ c hc (by have := hm; unfold mst at this; rw [hph, hl] at this; exact this)).mono ?_
      rintro e w' ⟨rfl, hb, hm1, hm2⟩
      by_cases k : m.left = 1
      · rw [if_pos k] at ok ⊢
        exact rsamp_quiet h ok hb (hm1 (by omega)) hsn (by intro k; cases k)
      · rw [if_neg k] at ok ⊢
        refine rsamp_quiet h ok hb (by unfold mst; dsimp only; (try rw [hph]); rw [show m.left - 1 = l by omega]; exact hm2 (by omega)) hsn (by dsimp only; (try rw [hph]); intro k; cases k)
  | idle =>
    have hsn : m.snd = false := hns (by rw [hph]; intro k; cases k)
    unfold Mm.sample at ok ⊢
    rw [hph] at ok ⊢
    dsimp only at ok ⊢
    cases hc : (c != 48)
    · rw [hc] at ok
      simp only [Bool.false_eq_true, if_false] at ok ⊢
      unfold Mm.start at ok ⊢
      cases hh : m.has
      · rw [hh] at ok
        simp only [Bool.false_eq_true, if_false] at ok ⊢
        refine (rsampIdle0_any w p _ _ _ _ _ _ _ _ _ _ q _ _ _ c hc (by have := hm; unfold mst at this; rw [hph, hh] at this; exact this)).mono ?_
        rintro e w' ⟨sl, cap, q', rfl, hE, h1, h2, h3, hb, hm'⟩
        exact rsamp_start h ok hlt hE h1 h2 h3 hb hm' (fun k => (by cases k))
      · rw [hh] at ok
        simp only [if_true] at ok ⊢
        refine (rsampIdle2_any w p _ _ _ m.f (h.ok.has hh).1 _ _ _ q _ _ _ c hc (by have := hm; unfold mst at this; rw [hph, hh] at this; exact this)).mono ?_
        rintro e w' ⟨sl, cap, q', rfl, hE, h1, h2, h3, hb, hm'⟩
        exact rsamp_start h ok hlt hE h1 h2 h3 hb hm' (fun k => ⟨rfl, rfl, rfl⟩)
    · rw [hc] at ok
      simp only [if_true] at ok ⊢
      refine (rsampIdle1_any w p _ _ _ _ _ _ _ _ _ _ _ q _ _ _ c hc (by have := hm; unfold mst at this; rw [hph] at this; exact this)).mono ?_
      rintro e w' ⟨rfl, hb, hm'⟩
      exact rsamp_quiet h ok hb (by unfold mst; rw [hph]; exact hm') hsn (by rw [hph]; intro k; cases k)
  | inFr =>
    have hrd : RdAt w q m.bits := h.rd hph
    have hgl := Mm.good_len (h.ok.good hph).1
    have hR : Calls Tryz.prog 31 #[bptr p, .int .u8 (c.toNat : Int)] w fun e w' => ∃ sl n cap, e = .returned (.slice sl n cap) ∧ RSamp w p (fun j => j = p ∨ j = q) (Mm.sample m (c != 48)) (.returned (.slice sl n cap)) w' := by
      refine rsampFr_any w p q m out at_ ar c hph hm (fun sl n cap w' => RSamp w p (fun j => j = p ∨ j = q) (Mm.sample m (c != 48)) (.returned (.slice sl n cap)) w') ?_ ?_
      · intro hsn
        obtain ⟨rfl, rfl, rfl⟩ := hs hsn
        have e : Mm.sample m (c != 48) = Mm.sending m (c != 48) := by unfold Mm.sample; rw [hph]; dsimp only; rw [hsn]; rfl
        rw [e] at ok ⊢
        refine (rsend_st w p q m (c != 48) h.ok hsn h.ne hrd hm).mono ?_
        rintro e w' ⟨at', hT, hat⟩
        have hT' := hT
        obtain ⟨sl, cap, rfl, _⟩ := hT'
        exact ⟨sl, _, cap, rfl, hT.samp h ok hlt (fun k => ⟨by rw [(hat k).2], (hat k).1, by rw [(hat k).2]⟩)⟩
      · intro hsn
        have e : Mm.sample m (c != 48) = Mm.hearing m (c != 48) := by unfold Mm.sample; rw [hph]; dsimp only; rw [hsn]; rfl
        rw [e] at ok ⊢
        refine (rhear_st w p q m out at_ ar (c != 48) hph h.ne hrd (by omega) hm).mono ?_
        intro e w' hT
        have hT' := hT
        obtain ⟨sl, cap, rfl, _⟩ := hT'
        refine ⟨sl, _, cap, rfl, hT.samp h ok hlt (fun k => ?_)⟩
        exfalso
        have k' := k
        unfold Mm.hearing Mm.bad at k'
        dsimp only at k'
        split at k'
        · have k2 : m.snd = true := k'; rw [hsn] at k2; cases k2
        · split at k'
          · split at k' <;> cases k'
          · split at k' <;> (have k2 : m.snd = true := k'; rw [hsn] at k2; cases k2)
    exact hR.mono fun e w' ⟨sl, n, cap, he, hx⟩ => he ▸ hx
end Go.Proofs.YthkaekpoicodeaaGreatDoor
