/- WireTurned: a bit turned somewhere: each node is idle again some time later, nobody is off, and a frame then comes to all, for every two frames of at most 8 bytes that are ones (others are let by); no condition. -/
import Derived.Test.YtoohmpkhljfpbaaDoorH4
import Derived.Test.YtoohmpkhljfpbaaDoorUi
import Derived.Test.YtoohmpkhljfpbaaDoorU8
import Derived.Deep.RegionHeld3
import Derived.Deep.CutBlock
import Derived.ProofKit
import Derived.OpenShut
namespace Go.Proofs.YtoohmpkhljfpbaaDoor.wireTurned
open Go.ChangeShapes Go.WideShapes Go.ChangeAt Go.RowKit
set_option linter.unusedVariables false
variable {At : Ob.A Mm.Wi}
/-- An event that can be read. -/
structure Ev1 (w : World) (b o : Nat) (k : Int) (g : Cm.Fr) (D : ByteArray) : Prop where
  lt : b < w.heap.size
  c0 : w.cell? ⟨b, o, none⟩ = some (.int .i64 k)
  c1 : w.cell? ⟨b, o + 1, none⟩ = some (.bool g.1)
  c2 : w.cell? ⟨b, o + 2, none⟩ = some (.int .u32 (g.2.1 : Int))
  c3 : w.cell? ⟨b, o + 3, none⟩ = some (.bool g.2.2.1)
  c4 : w.cell? ⟨b, o + 4, none⟩ = some (.string D)
  c5 : w.cell? ⟨b, o + 5, none⟩ = some (.int .i64 0)
theorem Ev1.heap {w w' : World} {b o : Nat} {k : Int} {g : Cm.Fr} {D : ByteArray} (h : Ev1 w b o k g D) (hs : w.heap.size ≤ w'.heap.size) (hb : w'.heap[b]? = w.heap[b]?) : Ev1 w' b o k g D := by
  have e : ∀ j, w'.cell? ⟨b, j, none⟩ = w.cell? ⟨b, j, none⟩ := fun j => by unfold World.cell?; rw [hb]
  exact ⟨Nat.lt_of_lt_of_le h.lt hs, (e _).trans h.c0, (e _).trans h.c1, (e _).trans h.c2, (e _).trans h.c3, (e _).trans h.c4, (e _).trans h.c5⟩
theorem Ev1.on {w w' : World} {b o : Nat} {k : Int} {g : Cm.Fr} {D : ByteArray} (h : Ev1 w b o k g D) (hb : Below w.heap.size w w') : Ev1 w' b o k g D := h.heap hb.size (hb.block b h.lt)
theorem Ev1.drew {w : World} {b o : Nat} {k : Int} {g : Cm.Fr} {D : ByteArray} (h : Ev1 w b o k g D) : Ev1 w.drew b o k g D := h.heap (Nat.le_refl _) rfl
theorem Ev1.alloc {w : World} {b o : Nat} {k : Int} {g : Cm.Fr} {D : ByteArray} (h : Ev1 w b o k g D) (x : Obj) : Ev1 (w.alloc x) b o k g D := h.on ((Below.refl _ _).alloc (Nat.le_refl _) _)
theorem Ev1.set {w : World} {b o : Nat} {k : Int} {g : Cm.Fr} {D : ByteArray} {q : Addr} {v : Value} (h : Ev1 w b o k g D) (hq : b ≠ q.block) : Ev1 (w.setCell q v) b o k g D := h.heap (by simp [World.setCell]) (Below.heap_setCell _ _ _ _ hq)
theorem Ev1.newAt {w : World} {b : Nat} {k : Int} {g : Cm.Fr} {D : ByteArray} (hb : b = w.heap.size) : Ev1 (w.alloc (.cells #[.int .i64 k, .bool g.1, .int .u32 (g.2.1 : Int), .bool g.2.2.1, .string D, .int .i64 0] 39)) b 0 k g D := by
  subst hb
  have h := heap_alloc_new w (.cells #[.int .i64 k, .bool g.1, .int .u32 (g.2.1 : Int), .bool g.2.2.1, .string D, .int .i64 0] 39)
  exact ⟨by simp, by rw [cell_of_row _ _ _ _ _ _ h]; rfl, by rw [cell_of_row _ _ _ _ _ _ h]; rfl, by rw [cell_of_row _ _ _ _ _ _ h]; rfl, by rw [cell_of_row _ _ _ _ _ _ h]; rfl, by rw [cell_of_row _ _ _ _ _ _ h]; rfl, by rw [cell_of_row _ _ _ _ _ _ h]; rfl⟩
theorem Ev1.all {w : World} {b o : Nat} {k : Int} {g : Cm.Fr} {D : ByteArray} (h : Ev1 w b o k g D) : w.cell? ⟨b, o, none⟩ = some (.int .i64 k) ∧ w.cell? ⟨b, o + 1, none⟩ = some (.bool g.1) ∧ w.cell? ⟨b, o + 2, none⟩ = some (.int .u32 (g.2.1 : Int)) ∧ w.cell? ⟨b, o + 3, none⟩ = some (.bool g.2.2.1) ∧ w.cell? ⟨b, o + 4, none⟩ = some (.string D) ∧ w.cell? ⟨b, o + 5, none⟩ = some (.int .i64 0) := ⟨h.c0, h.c1, h.c2, h.c3, h.c4, h.c5⟩
theorem oL_top {f : Cm.Fr} (hf : Mm.isFr f = true) : Mm.oL f ≤ 160 := by
  have h := (Cm.enc_len (x := f.1) (n := f.2.1) (r := f.2.2.1) (d := f.2.2.2) hf).2.1
  have hd := (Fm.isF_parts (show Fm.isF f.1 f.2.1 f.2.2.1 f.2.2.2 = true from hf)).2.1
  have e : Mm.oL f = (Cm.enc0 f.1 f.2.1 f.2.2.1 f.2.2.2).length := rfl
  rw [e]
  split at h <;> omega
theorem isC {f : Cm.Fr} {D : ByteArray} (hD : D = ⟨f.2.2.2.toArray⟩) {b : Bool} (hb : Mm.isFr f = b) (w : World) : Calls Tryd.prog 9 #[.agg #[.bool f.1, .int .u32 (f.2.1 : Int), .bool f.2.2.1, .string D]] w fun e w' => e = .returned (.bool b) ∧ Below w.heap.size w w' := by
  have h := refFIs_any f.1 f.2.1 f.2.2.1 ⟨f.2.2.2.toArray⟩ w
  rw [hD, ← hb]
  exact h
set_option maxRecDepth 100000 in
set_option maxHeartbeats 4000000 in
theorem early (S : WireSpec At) (f g : Cm.Fr) (Df Dg : ByteArray) (hf : Df = ⟨f.2.2.2.toArray⟩) (hg : Dg = ⟨g.2.2.2.toArray⟩) (a : Int)
    (h : 8 < Df.size ∨ ¬ 8 < Df.size ∧ 8 < Dg.size ∨ ¬ 8 < Df.size ∧ ¬ 8 < Dg.size ∧ Mm.isFr f = false ∨ ¬ 8 < Df.size ∧ ¬ 8 < Dg.size ∧ Mm.isFr f = true ∧ Mm.isFr g = false) (W : World) (hT : Tab W) :
    Calls Tryd.prog 4 #[.agg #[.bool f.1, .int .u32 (f.2.1 : Int), .bool f.2.2.1, .string Df], .agg #[.bool g.1, .int .u32 (g.2.1 : Int), .bool g.2.2.1, .string Dg], .int .u8 a] W fun e w' => e = .returned (.bool true) ∧ Below W.heap.size W w' := by
  have HT : Hid (Tab _) := (hT.alloc (.cells #[.bool f.1, .int .u32 (f.2.1 : Int), .bool f.2.2.1, .string Df] 26)).alloc (.cells #[.bool g.1, .int .u32 (g.2.1 : Int), .bool g.2.2.1, .string Dg] 26)
  have HI : Hid (∀ w, Calls Tryd.prog 9 #[.agg #[.bool f.1, .int .u32 (f.2.1 : Int), .bool f.2.2.1, .string Df]] w fun e w' => e = .returned (.bool (Mm.isFr f)) ∧ Below w.heap.size w w') := fun w => isC hf rfl w
  have HJ : Hid (∀ w, Calls Tryd.prog 9 #[.agg #[.bool g.1, .int .u32 (g.2.1 : Int), .bool g.2.2.1, .string Dg]] w fun e w' => e = .returned (.bool (Mm.isFr g)) ∧ Below w.heap.size w w') := fun w => isC hg rfl w
  clear hT hf hg
  go_enter Tryd.func4, Tryd.ntmps4
  go_wp2_with fail
  refine (known8_any S _ HT.out).mono ?_
  rintro e w1 ⟨rfl, hb⟩
  have LF : Hid (Lies w1 W.heap.size f.1 f.2.1 f.2.2.1 Df) := Lies.on (Lies.alloc (Lies.new W _ _ _ _) _) hb
  have LG : Hid (Lies w1 (W.heap.size + 1) g.1 g.2.1 g.2.2.1 Dg) := Lies.on (heap_alloc2_new _ _ _) hb
  have hA : Hid (Below W.heap.size W w1) := below_joinK (((Below.refl _ _).alloc (Nat.le_refl _) _).alloc (by simp) _) hb (by simp; omega)
  clear hb
  have L0 := LF.out.c0
  have L1 := LF.out.c1
  have L2 := LF.out.c2
  have L3 := LF.out.c3
  have M0 := LG.out.c0
  have M1 := LG.out.c1
  have M2 := LG.out.c2
  have M3 := LG.out.c3
  rcases h with h | ⟨h, h2⟩ | ⟨h, h2, h3⟩ | ⟨h, h2, h3, h4⟩
  · go_wp2
    go_ret
    exact ⟨rfl, hA.out⟩
  · go_wp2
    go_ret
    exact ⟨rfl, hA.out⟩
  · rw [h3] at HI
    go_wp2_with fail
    refine (HI.out _).mono ?_
    rintro e w2 ⟨rfl, hb⟩
    replace hA : Hid (Below W.heap.size W w2) := below_joinK hA.out hb hA.out.size
    clear hb
    go_wp2
    go_ret
    exact ⟨rfl, hA.out⟩
  · rw [h3] at HI
    rw [h4] at HJ
    go_wp2_with fail
    refine (HI.out _).mono ?_
    rintro e w2 ⟨rfl, hb⟩
    replace hA : Hid (Below W.heap.size W w2) := below_joinK hA.out hb hA.out.size
    replace LG : Hid (Lies w2 (W.heap.size + 1) g.1 g.2.1 g.2.2.1 Dg) := LG.out.on hb
    clear hb M0 M1 M2 M3 L0 L1 L2 L3
    have M0 := LG.out.c0
    have M1 := LG.out.c1
    have M2 := LG.out.c2
    have M3 := LG.out.c3
    go_wp2_with fail
    refine (HJ.out _).mono ?_
    rintro e w3 ⟨rfl, hb⟩
    replace hA : Hid (Below W.heap.size W w3) := below_joinK hA.out hb hA.out.size
    clear hb
    go_wp2
    go_ret
    exact ⟨rfl, hA.out⟩
set_option maxRecDepth 100000 in
set_option maxHeartbeats 4000000 in
theorem main (S : WireSpec At) (f g : Cm.Fr) (Df Dg : ByteArray) (hDf : Df = ⟨f.2.2.2.toArray⟩) (hDg : Dg = ⟨g.2.2.2.toArray⟩) (a : Nat) (ha : a < 256) (h8 : ¬ 8 < Df.size) (h9 : ¬ 8 < Dg.size) (hf : Mm.isFr f = true) (hg : Mm.isFr g = true) (nf : f.2.1 < 4294967296) (ng : g.2.1 < 4294967296) (W : World) (hT : Tab W) :
    Calls Tryd.prog 4 #[.agg #[.bool f.1, .int .u32 (f.2.1 : Int), .bool f.2.2.1, .string Df], .agg #[.bool g.1, .int .u32 (g.2.1 : Int), .bool g.2.2.1, .string Dg], .int .u8 (a : Int)] W fun e w' => e = .returned (.bool true) ∧ Below W.heap.size W w' := by
  have HT : Hid (Tab _) := (hT.alloc (.cells #[.bool f.1, .int .u32 (f.2.1 : Int), .bool f.2.2.1, .string Df] 26)).alloc (.cells #[.bool g.1, .int .u32 (g.2.1 : Int), .bool g.2.2.1, .string Dg] 26)
  have HTW : Hid (Tab W) := hT
  have HI : Hid (∀ w, Calls Tryd.prog 9 #[.agg #[.bool f.1, .int .u32 (f.2.1 : Int), .bool f.2.2.1, .string Df]] w fun e w' => e = .returned (.bool true) ∧ Below w.heap.size w w') := fun w => isC hDf hf w
  have HJ : Hid (∀ w, Calls Tryd.prog 9 #[.agg #[.bool g.1, .int .u32 (g.2.1 : Int), .bool g.2.2.1, .string Dg]] w fun e w' => e = .returned (.bool true) ∧ Below w.heap.size w w') := fun w => isC hDg hg w
  have lf : f.2.2.2.length ≤ 1000 := by
    have h8' := h8
    rw [hDf] at h8'
    have e : (ByteArray.mk f.2.2.2.toArray).size = f.2.2.2.length := (by show f.2.2.2.toArray.size = _; simp)
    omega
  have lg : g.2.2.2.length ≤ 1000 := by
    have h8' := h9
    rw [hDg] at h8'
    have e : (ByteArray.mk g.2.2.2.toArray).size = g.2.2.2.length := (by show g.2.2.2.toArray.size = _; simp)
    omega
  have HA : Hid (∀ (P : Nat → Prop) (w : World) (p : Nat) (V : Mm.Wi) (k : Nat) (V' : Mm.Wi), Mm.wask V 0 f = (k, V') → OwnW At P w p V → Ctx W P w → Calls Tryd.prog 15 #[bptr p, .int .i64 0, .agg #[.bool f.1, .int .u32 (f.2.1 : Int), .bool f.2.2.1, .string Df]] w fun e w' => e = .returned (.int .i64 (k : Int)) ∧ OwnW At P w' p V' ∧ Ctx W P w' ∧ Kept P w w') := fun P w p V k V' h1 h2 h3 => by
    rw [hDf]
    exact ow_ask S 0 f h1 (by decide) nf lf h2 h3
  have HB : Hid (∀ (P : Nat → Prop) (w : World) (p : Nat) (V : Mm.Wi) (k : Nat) (V' : Mm.Wi), Mm.wask V 1 g = (k, V') → OwnW At P w p V → Ctx W P w → Calls Tryd.prog 15 #[bptr p, .int .i64 1, .agg #[.bool g.1, .int .u32 (g.2.1 : Int), .bool g.2.2.1, .string Dg]] w fun e w' => e = .returned (.int .i64 (k : Int)) ∧ OwnW At P w' p V' ∧ Ctx W P w' ∧ Kept P w w') := fun P w p V k V' h1 h2 h3 => by
    rw [hDg]
    exact ow_ask S 1 g h1 (by decide) ng lg h2 h3
  have HF : Hid (Mm.isFr f = true ∧ Mm.isFr g = true ∧ Mm.oL f ≤ 160 ∧ Mm.oL g ≤ 160 ∧ 44 ≤ Mm.oL g ∧ Dg = ⟨g.2.2.2.toArray⟩) := ⟨hf, hg, oL_top hf, oL_top hg, (Mm.out_len hg).1, hDg⟩
  clear hT hDf hDg hf hg lf lg nf ng
  go_enter Tryd.func4, Tryd.ntmps4
  go_wp2_with fail
  refine (known8_any S _ HT.out).mono ?_
  rintro e w1 ⟨rfl, hb⟩
  have LF : Hid (Lies w1 W.heap.size f.1 f.2.1 f.2.2.1 Df) := Lies.on (Lies.alloc (Lies.new W _ _ _ _) _) hb
  have LG : Hid (Lies w1 (W.heap.size + 1) g.1 g.2.1 g.2.2.1 Dg) := Lies.on (heap_alloc2_new _ _ _) hb
  have hA : Hid (Below W.heap.size W w1) := below_joinK (((Below.refl _ _).alloc (Nat.le_refl _) _).alloc (by simp) _) hb (by simp; omega)
  clear hb
  have L0 := LF.out.c0
  have L1 := LF.out.c1
  have L2 := LF.out.c2
  have L3 := LF.out.c3
  have M0 := LG.out.c0
  have M1 := LG.out.c1
  have M2 := LG.out.c2
  have M3 := LG.out.c3
  go_wp2_with fail
  refine (HI.out _).mono ?_
  rintro e w2 ⟨rfl, hb⟩
  replace hA : Hid (Below W.heap.size W w2) := below_joinK hA.out hb hA.out.size
  replace LF : Hid (Lies w2 W.heap.size f.1 f.2.1 f.2.2.1 Df) := LF.out.on hb
  replace LG : Hid (Lies w2 (W.heap.size + 1) g.1 g.2.1 g.2.2.1 Dg) := LG.out.on hb
  clear hb M0 M1 M2 M3 L0 L1 L2 L3
  have M0 := LG.out.c0
  have M1 := LG.out.c1
  have M2 := LG.out.c2
  have M3 := LG.out.c3
  go_wp2_with fail
  refine (HJ.out _).mono ?_
  rintro e w3 ⟨rfl, hb⟩
  replace hA : Hid (Below W.heap.size W w3) := below_joinK hA.out hb hA.out.size
  replace LF : Hid (Lies w3 W.heap.size f.1 f.2.1 f.2.2.1 Df) := LF.out.on hb
  replace LG : Hid (Lies w3 (W.heap.size + 1) g.1 g.2.1 g.2.2.1 Dg) := LG.out.on hb
  have hC : Hid (Ctx W (fun g => w3.heap.size ≤ g) w3) := Ctx.from HTW.out hA.out
  have LFP : Hid (¬ (fun g => w3.heap.size ≤ g) W.heap.size) := (by show ¬ _; have := LF.out.lt; omega)
  have LGP : Hid (¬ (fun g => w3.heap.size ≤ g) (W.heap.size + 1)) := (by show ¬ _; have := LG.out.lt; omega)
  clear hb M0 M1 M2 M3 hA HI HJ HT HTW
  go_wp2_with fail
  refine (ow_new S 3 (by decide) hC.out).mono ?_
  rintro e w4 ⟨p, qs, qb, rfl, O', C', hk'⟩
  replace hC : Hid (Ctx W _ w4) := C'
  have OB : Hid (OwnW At _ w4 p (Mm.wnew 3 qs qb)) := O'
  replace LF : Hid (Lies w4 _ _ _ _ _) := LF.out.kept hk' LFP.out
  replace LG : Hid (Lies w4 _ _ _ _ _) := LG.out.kept hk' LGP.out
  obtain ⟨W1, a1, p1⟩ := Mm.ph1_start HF.out.1 a qs qb
  have H1 : Hid (Mm.Ph1 f a 0 W1) := p1
  have L0 := LF.out.c0
  have L1 := LF.out.c1
  have L2 := LF.out.c2
  have L3 := LF.out.c3
  clear O' C' hk' p1
  go_wp2_with fail
  refine (HA.out _ _ _ _ _ _ a1 OB.out hC.out).mono ?_
  rintro e w' ⟨rfl, O', C', hk'⟩
  replace hC : Hid (Ctx W _ w') := C'
  replace OB : Hid (OwnW At _ w' _ W1) := O'
  replace LG : Hid (Lies w' _ _ _ _ _) := LG.out.kept hk' LGP.out
  clear O' C' hk' L0 L1 L2 L3 LF a1 LFP HA
  go_wp2_with fail
  go_loopw [8] (fun i wr => ∃ (k : Nat) (V : Mm.Wi), k ≤ 400 ∧ i = .int .i64 k ∧ Hid (Mm.Ph1 f a k V) ∧ Hid (OwnW At (fun g => w3.heap.size ≤ g) wr p V) ∧ Hid (Ctx W (fun g => w3.heap.size ≤ g) wr) ∧ Hid (Lies wr (W.heap.size + 1) g.1 g.2.1 g.2.2.1 Dg)) (fun i _ => 400 - (intOf i).toNat)
  case atStart => exact ⟨0, W1, by decide, rfl, H1, OB, hC, LG⟩
  case round =>
    clear OB hC LG H1
    obtain ⟨k, V, hk, rfl, H1, OB, hC, LG⟩ := hrel
    by_cases hlt : k < 400
    · have H3 : Hid (∀ fl, fl = decide (k = a) → Mm.Ph1 f a (k + 1) (Mm.wnext V fl)) := fun fl hfl => Mm.ph1_step HF.out.1 a k H1.out fl hfl
      have hbl : V.bs.length ≤ 100000 := by rw [H1.out.2.2]; omega
      clear H1
      go_wp2_with fail
      refine (ow_step S _ hbl OB.out hC.out).mono ?_
      rintro e w' ⟨sl, cp, rfl, EV', O', C', hk'⟩
      replace hC : Hid (Ctx W _ w') := C'
      replace OB : Hid (OwnW At _ w' _ _) := O'
      replace LG : Hid (Lies w' _ _ _ _ _) := LG.out.kept hk' LGP.out
      clear O' C' hk' EV' hbl
      go_wp2
      go_roundw
      case rel => exact ⟨k + 1, _, by omega, rfl, H3.out _ (by rw [Bool.eq_iff_iff]; simp; try omega), OB, hC, LG⟩
      case measure => simp only [intOf]; omega
    · have e400 : k = 400 := by omega
      replace H1 : Hid (Mm.Ph1 f a 400 V) := (by have h := H1.out; rw [e400] at h; exact h)
      have HId := fun j hj => Mm.ph1_idle HF.out.1 HF.out.2.2.1 (show a ≤ 255 by omega) H1.out j hj
      have HIH : Hid (∀ j, j < 3 → ∃ m, V.ms[j]? = some m ∧ decide (m.ph = .idle) = true ∧ Mm.busy m = false) := HId
      have hml : V.ms.length = 3 := by rw [H1.out.1, Mm.pl_len]
      have HML : Hid (V.ms.length = 3) := hml
      obtain ⟨W2, a2, p2⟩ := Mm.ph2_start HF.out.1 HF.out.2.1 HF.out.2.2.1 (show a ≤ 255 by omega) H1.out
      have H2 : Hid (Mm.Ph2 g 0 W2) := p2
      have A2 : Hid (Mm.wask V 1 g = (0, W2)) := a2
      clear HId hml a2 p2 hk H1 e400
      go_wp2_with fail
      go_loopw [9] (fun i wr => ∃ (q : Nat), q ≤ 3 ∧ i = .int .i64 q ∧ Hid (OwnW At (fun g => w3.heap.size ≤ g) wr p V) ∧ Hid (Ctx W (fun g => w3.heap.size ≤ g) wr) ∧ Hid (Lies wr (W.heap.size + 1) g.1 g.2.1 g.2.2.1 Dg)) (fun i _ => 3 - (intOf i).toNat)
      case atStart => exact ⟨0, by decide, rfl, OB, hC, LG⟩
      case round =>
        clear OB hC LG
        obtain ⟨q, hq, rfl, OB, hC, LG⟩ := hrel
        by_cases hlq : q < 3
        · obtain ⟨m, m1, m2, m3⟩ := HIH.out q hlq
          have hqm : q < V.ms.length := by rw [HML.out]; exact hlq
          go_wp2_with fail
          refine (ow_mac S q hqm OB.out).mono ?_
          rintro e w' ⟨rfl, hb'⟩
          replace OB : Hid (OwnW At _ w' _ _) := OB.out.on S hb'
          replace hC : Hid (Ctx W _ w') := hC.out.more hb'
          replace LG : Hid (Lies w' _ _ _ _ _) := LG.out.on hb'
          clear hb'
          try clear LG0 LG1 LG2 LG3
          have LG0 := LG.out.c0
          have LG1 := LG.out.c1
          have LG2 := LG.out.c2
          have LG3 := LG.out.c3
          go_wp2_with fail
          refine (ow_idle (W0 := W) S q m1 m2 OB.out hC.out.tab).mono ?_
          rintro e w' ⟨rfl, hb'⟩
          replace OB : Hid (OwnW At _ w' _ _) := OB.out.on S hb'
          replace hC : Hid (Ctx W _ w') := hC.out.more hb'
          replace LG : Hid (Lies w' _ _ _ _ _) := LG.out.on hb'
          clear hb'
          try clear LG0 LG1 LG2 LG3
          have LG0 := LG.out.c0
          have LG1 := LG.out.c1
          have LG2 := LG.out.c2
          have LG3 := LG.out.c3
          go_wp2_with fail
          refine (ow_mac S q hqm OB.out).mono ?_
          rintro e w' ⟨rfl, hb'⟩
          replace OB : Hid (OwnW At _ w' _ _) := OB.out.on S hb'
          replace hC : Hid (Ctx W _ w') := hC.out.more hb'
          replace LG : Hid (Lies w' _ _ _ _ _) := LG.out.on hb'
          clear hb'
          try clear LG0 LG1 LG2 LG3
          have LG0 := LG.out.c0
          have LG1 := LG.out.c1
          have LG2 := LG.out.c2
          have LG3 := LG.out.c3
          go_wp2_with fail
          refine (ow_busy S q m1 m3 OB.out hC.out.tab).mono ?_
          rintro e w' ⟨rfl, hb'⟩
          replace OB : Hid (OwnW At _ w' _ _) := OB.out.on S hb'
          replace hC : Hid (Ctx W _ w') := hC.out.more hb'
          replace LG : Hid (Lies w' _ _ _ _ _) := LG.out.on hb'
          clear hb'
          try clear LG0 LG1 LG2 LG3
          have LG0 := LG.out.c0
          have LG1 := LG.out.c1
          have LG2 := LG.out.c2
          have LG3 := LG.out.c3
          clear LG0 LG1 LG2 LG3 m1 m2 m3 hqm
          go_wp2
          go_roundw
          case rel => exact ⟨q + 1, by omega, rfl, OB, hC, LG⟩
          case measure => simp only [intOf]; omega
        · have M0 := LG.out.c0
          have M1 := LG.out.c1
          have M2 := LG.out.c2
          have M3 := LG.out.c3
          clear hq
          go_wp2_with fail
          refine (HB.out _ _ _ _ _ _ A2.out OB.out hC.out).mono ?_
          rintro e w' ⟨rfl, O', C', hk'⟩
          replace hC : Hid (Ctx W _ w') := C'
          replace OB : Hid (OwnW At _ w' _ W2) := O'
          replace LG : Hid (Lies w' _ _ _ _ _) := LG.out.kept hk' LGP.out
          clear O' C' hk' M0 M1 M2 M3 A2 HIH HML HB
          go_wp2_with fail
          go_loopw [10] (fun i wr => ∃ (k : Nat) (U : Mm.Wi), k ≤ 200 ∧ i = .int .i64 k ∧ Hid (Mm.Ph2 g k U) ∧ Hid (OwnW At (fun g => w3.heap.size ≤ g) wr p U) ∧ Hid (Ctx W (fun g => w3.heap.size ≤ g) wr) ∧ Hid (Lies wr (W.heap.size + 1) g.1 g.2.1 g.2.2.1 Dg)) (fun i _ => 200 - (intOf i).toNat)
          case atStart => exact ⟨0, W2, by decide, rfl, H2, OB, hC, LG⟩
          case round =>
            clear OB hC LG H2
            obtain ⟨k2, U, hk, rfl, H2, OB, hC, LG⟩ := hrel
            by_cases hl2 : k2 < 200
            · have H3 : Hid (Mm.Ph2 g (k2 + 1) (Mm.wnext U false)) := Mm.ph2_step HF.out.2.1 k2 H2.out
              have hbl : U.bs.length ≤ 100000 := by obtain ⟨_, _, _, _, _, _, _, _, _, _, _, _, _, _, z⟩ := H2.out; rw [z]; omega
              clear H2
              go_wp2_with fail
              refine (ow_step S false hbl OB.out hC.out).mono ?_
              rintro e w' ⟨sl, cp, rfl, EV', O', C', hk'⟩
              replace hC : Hid (Ctx W _ w') := C'
              replace OB : Hid (OwnW At _ w' _ _) := O'
              have EV : Hid (EvIn w' sl cp _) := EV'
              clear EV'
              replace LG : Hid (Lies w' _ _ _ _ _) := (LG.out.kept hk' LGP.out)
              try clear LG0 LG1 LG2 LG3
              have LG0 := LG.out.c0
              have LG1 := LG.out.c1
              have LG2 := LG.out.c2
              have LG3 := LG.out.c3
              clear O' C' hk'
              clear EV LG0 LG1 LG2 LG3 hbl
              go_wp2
              go_roundw
              case rel => exact ⟨k2 + 1, _, by omega, rfl, H3, OB, hC, LG⟩
              case measure => simp only [intOf]; omega
            · obtain rfl : k2 = 200 := by omega
              obtain ⟨sa, sb, sc, h0, h1, h2, e1, e2, l0, l1, l2, s3, x, y, z⟩ := H2.out
              have hoL : Mm.oL g = (Mm.outB g).length := rfl
              have hgl := HF.out.2.2.2.1
              obtain ⟨x0, x2⟩ := x (by omega)
              have y1 := y (by omega)
              have ml : U.ms.length = 3 := by rw [e1]; rfl
              have f0 : (if 0 < U.ms.length then U.hs.getD 0 [] else []) = h0 := by rw [ml, e2]; rfl
              have f1 : (if 1 < U.ms.length then U.hs.getD 1 [] else []) = h1 := by rw [ml, e2]; rfl
              have f2 : (if 2 < U.ms.length then U.hs.getD 2 [] else []) = h2 := by rw [ml, e2]; rfl
              have HX : Hid (h0.getLast? = some ⟨2, g, 0⟩ ∧ h1.getLast? = some ⟨1, g, 0⟩ ∧ h2.getLast? = some ⟨2, g, 0⟩) := ⟨x0, y1, x2⟩
              clear H2 e1 e2 x y z x0 x2 y1 ml hoL hgl hl2 hk s3 sa sb sc
              go_wp2_with fail
              refine (ow_heard S 0 _ (by decide) f0 OB.out).mono ?_
              rintro e w' ⟨sEA, cEA, rfl, EV', hb'⟩
              replace OB : Hid (OwnW At _ w' _ _) := OB.out.on S hb'
              replace hC : Hid (Ctx W _ w') := hC.out.more hb'
              replace LG : Hid (Lies w' _ _ _ _ _) := LG.out.on hb'
              have EA : Hid (EvIn w' sEA cEA _) := EV'
              clear EV' hb'
              try clear LG0 LG1 LG2 LG3
              have LG0 := LG.out.c0
              have LG1 := LG.out.c1
              have LG2 := LG.out.c2
              have LG3 := LG.out.c3
              go_wp2_with fail
              refine (ow_heard S 1 _ (by decide) f1 OB.out).mono ?_
              rintro e w' ⟨sEB, cEB, rfl, EV', hb'⟩
              replace OB : Hid (OwnW At _ w' _ _) := OB.out.on S hb'
              replace hC : Hid (Ctx W _ w') := hC.out.more hb'
              replace LG : Hid (Lies w' _ _ _ _ _) := LG.out.on hb'
              replace EA : Hid (EvIn w' _ _ _) := EA.out.on hb'
              have EB : Hid (EvIn w' sEB cEB _) := EV'
              clear EV' hb'
              try clear LG0 LG1 LG2 LG3
              have LG0 := LG.out.c0
              have LG1 := LG.out.c1
              have LG2 := LG.out.c2
              have LG3 := LG.out.c3
              go_wp2_with fail
              refine (ow_heard S 2 _ (by decide) f2 OB.out).mono ?_
              rintro e w' ⟨sEC, cEC, rfl, EV', hb'⟩
              replace OB : Hid (OwnW At _ w' _ _) := OB.out.on S hb'
              replace hC : Hid (Ctx W _ w') := hC.out.more hb'
              replace LG : Hid (Lies w' _ _ _ _ _) := LG.out.on hb'
              replace EA : Hid (EvIn w' _ _ _) := EA.out.on hb'
              replace EB : Hid (EvIn w' _ _ _) := EB.out.on hb'
              have EC : Hid (EvIn w' sEC cEC _) := EV'
              clear EV' hb'
              try clear LG0 LG1 LG2 LG3
              have LG0 := LG.out.c0
              have LG1 := LG.out.c1
              have LG2 := LG.out.c2
              have LG3 := LG.out.c3
              clear f0 f1 f2
              obtain ⟨n0, hn0⟩ : ∃ n, h0.length = n + 1 := by
                have hx := HX.out.1
                cases h0 with
                | nil => cases hx
                | cons a l => exact ⟨l.length, rfl⟩
              have hv0 := HX.out.1
              rw [List.getLast?_eq_getElem?, hn0, Nat.add_sub_cancel] at hv0
              obtain ⟨g0, o0, rfl, gl0, gc0⟩ := EA.out.at n0 _ hv0
              have ca0 : n0 + 1 ≤ cEA ∧ cEA ≤ maxLen := ⟨by rw [← hn0]; exact EA.out.1, EA.out.2.1⟩
              have b00 : w'.cell? ⟨g0, o0 + n0 * 6, none⟩ = some _ := gc0 0 _ rfl
              have b01 : w'.cell? ⟨g0, o0 + n0 * 6 + 1, none⟩ = some _ := gc0 1 _ rfl
              have b02 : w'.cell? ⟨g0, o0 + n0 * 6 + 2, none⟩ = some _ := gc0 2 _ rfl
              have b03 : w'.cell? ⟨g0, o0 + n0 * 6 + 3, none⟩ = some _ := gc0 3 _ rfl
              have b04 : w'.cell? ⟨g0, o0 + n0 * 6 + 4, none⟩ = some (.string Dg) := (gc0 4 _ rfl).trans (by rw [HF.out.2.2.2.2.2])
              have b05 : w'.cell? ⟨g0, o0 + n0 * 6 + 5, none⟩ = some _ := gc0 5 _ rfl
              rw [hn0]
              clear gc0 hv0
              obtain ⟨n1, hn1⟩ : ∃ n, h1.length = n + 1 := by
                have hx := HX.out.2.1
                cases h1 with
                | nil => cases hx
                | cons a l => exact ⟨l.length, rfl⟩
              have hv1 := HX.out.2.1
              rw [List.getLast?_eq_getElem?, hn1, Nat.add_sub_cancel] at hv1
              obtain ⟨g1, o1, rfl, gl1, gc1⟩ := EB.out.at n1 _ hv1
              have ca1 : n1 + 1 ≤ cEB ∧ cEB ≤ maxLen := ⟨by rw [← hn1]; exact EB.out.1, EB.out.2.1⟩
              have b10 : w'.cell? ⟨g1, o1 + n1 * 6, none⟩ = some _ := gc1 0 _ rfl
              have b11 : w'.cell? ⟨g1, o1 + n1 * 6 + 1, none⟩ = some _ := gc1 1 _ rfl
              have b12 : w'.cell? ⟨g1, o1 + n1 * 6 + 2, none⟩ = some _ := gc1 2 _ rfl
              have b13 : w'.cell? ⟨g1, o1 + n1 * 6 + 3, none⟩ = some _ := gc1 3 _ rfl
              have b14 : w'.cell? ⟨g1, o1 + n1 * 6 + 4, none⟩ = some (.string Dg) := (gc1 4 _ rfl).trans (by rw [HF.out.2.2.2.2.2])
              have b15 : w'.cell? ⟨g1, o1 + n1 * 6 + 5, none⟩ = some _ := gc1 5 _ rfl
              rw [hn1]
              clear gc1 hv1
              obtain ⟨n2, hn2⟩ : ∃ n, h2.length = n + 1 := by
                have hx := HX.out.2.2
                cases h2 with
                | nil => cases hx
                | cons a l => exact ⟨l.length, rfl⟩
              have hv2 := HX.out.2.2
              rw [List.getLast?_eq_getElem?, hn2, Nat.add_sub_cancel] at hv2
              obtain ⟨g2, o2, rfl, gl2, gc2⟩ := EC.out.at n2 _ hv2
              have ca2 : n2 + 1 ≤ cEC ∧ cEC ≤ maxLen := ⟨by rw [← hn2]; exact EC.out.1, EC.out.2.1⟩
              have b20 : w'.cell? ⟨g2, o2 + n2 * 6, none⟩ = some _ := gc2 0 _ rfl
              have b21 : w'.cell? ⟨g2, o2 + n2 * 6 + 1, none⟩ = some _ := gc2 1 _ rfl
              have b22 : w'.cell? ⟨g2, o2 + n2 * 6 + 2, none⟩ = some _ := gc2 2 _ rfl
              have b23 : w'.cell? ⟨g2, o2 + n2 * 6 + 3, none⟩ = some _ := gc2 3 _ rfl
              have b24 : w'.cell? ⟨g2, o2 + n2 * 6 + 4, none⟩ = some (.string Dg) := (gc2 4 _ rfl).trans (by rw [HF.out.2.2.2.2.2])
              have b25 : w'.cell? ⟨g2, o2 + n2 * 6 + 5, none⟩ = some _ := gc2 5 _ rfl
              rw [hn2]
              clear gc2 hv2
              have M0 := LG.out.c0
              have M1 := LG.out.c1
              have M2 := LG.out.c2
              have M3 := LG.out.c3
              have ll : n0 ≤ 99 ∧ n1 ≤ 99 ∧ n2 ≤ 99 := ⟨by omega, by omega, by omega⟩
              obtain ⟨ll0, ll1, ll2⟩ := ll
              have i0a : (0 : Int) ≤ (n0 : Int) := by omega
              have i0b : (n0 : Int) ≤ 99 := by omega
              have i0c : IntKind.i64.wrap ((n0 : Int) + 1 - 1) = (n0 : Int) := by rw [IntKind.wrap_i64]; omega
              have i0d : IntKind.i64.wrap (n0 : Int) = (n0 : Int) := by rw [IntKind.wrap_i64]; omega
              have i0e : (n0 : Int) < (n0 : Int) + 1 := by omega
              have i1a : (0 : Int) ≤ (n1 : Int) := by omega
              have i1b : (n1 : Int) ≤ 99 := by omega
              have i1c : IntKind.i64.wrap ((n1 : Int) + 1 - 1) = (n1 : Int) := by rw [IntKind.wrap_i64]; omega
              have i1d : IntKind.i64.wrap (n1 : Int) = (n1 : Int) := by rw [IntKind.wrap_i64]; omega
              have i1e : (n1 : Int) < (n1 : Int) + 1 := by omega
              have i2a : (0 : Int) ≤ (n2 : Int) := by omega
              have i2b : (n2 : Int) ≤ 99 := by omega
              have i2c : IntKind.i64.wrap ((n2 : Int) + 1 - 1) = (n2 : Int) := by rw [IntKind.wrap_i64]; omega
              have i2d : IntKind.i64.wrap (n2 : Int) = (n2 : Int) := by rw [IntKind.wrap_i64]; omega
              have i2e : (n2 : Int) < (n2 : Int) + 1 := by omega
              obtain ⟨ca00, ca01⟩ := ca0
              obtain ⟨ca10, ca11⟩ := ca1
              obtain ⟨ca20, ca21⟩ := ca2
              clear EA EB EC HX l0 l1 l2 hn0 hn1 hn2
              have X0 : Hid (Ev1 w' g0 (o0 + n0 * 6) 2 g Dg) := ⟨gl0, b00, b01, b02, b03, b04, b05⟩
              have X1 : Hid (Ev1 w' g1 (o1 + n1 * 6) 1 g Dg) := ⟨gl1, b10, b11, b12, b13, b14, b15⟩
              have X2 : Hid (Ev1 w' g2 (o2 + n2 * 6) 2 g Dg) := ⟨gl2, b20, b21, b22, b23, b24, b25⟩
              clear b00 b01 b02 b03 b04 b05 b10 b11 b12 b13 b14 b15 b20 b21 b22 b23 b24 b25
              go_wp2_with fail
              go_cut [14, 15, 16] from 85 (fun px py pz wx => ∃ bx by_ bz : Nat, px = .pointer (some ⟨bx, 0, none⟩) ∧ py = .pointer (some ⟨by_, 0, none⟩) ∧ pz = .pointer (some ⟨bz, 0, none⟩) ∧ Hid (Ev1 wx bx 0 2 g Dg) ∧ Hid (Ev1 wx by_ 0 1 g Dg) ∧ Hid (Ev1 wx bz 0 2 g Dg) ∧ Hid (Ctx W (fun g => w3.heap.size ≤ g) wx) ∧ Hid (Lies wx (W.heap.size + 1) g.1 g.2.1 g.2.2.1 Dg))
              case first =>
                go_region_held3 (fun v9 => (v9.cell? ⟨g0, o0 + n0 * 6, none⟩ = some (.int .i64 2) ∧ v9.cell? ⟨g0, o0 + n0 * 6 + 1, none⟩ = some (.bool g.1) ∧ v9.cell? ⟨g0, o0 + n0 * 6 + 2, none⟩ = some (.int .u32 (g.2.1 : Int)) ∧ v9.cell? ⟨g0, o0 + n0 * 6 + 3, none⟩ = some (.bool g.2.2.1) ∧ v9.cell? ⟨g0, o0 + n0 * 6 + 4, none⟩ = some (.string Dg) ∧ v9.cell? ⟨g0, o0 + n0 * 6 + 5, none⟩ = some (.int .i64 0)) ∧ (v9.cell? ⟨g1, o1 + n1 * 6, none⟩ = some (.int .i64 1) ∧ v9.cell? ⟨g1, o1 + n1 * 6 + 1, none⟩ = some (.bool g.1) ∧ v9.cell? ⟨g1, o1 + n1 * 6 + 2, none⟩ = some (.int .u32 (g.2.1 : Int)) ∧ v9.cell? ⟨g1, o1 + n1 * 6 + 3, none⟩ = some (.bool g.2.2.1) ∧ v9.cell? ⟨g1, o1 + n1 * 6 + 4, none⟩ = some (.string Dg) ∧ v9.cell? ⟨g1, o1 + n1 * 6 + 5, none⟩ = some (.int .i64 0)) ∧ (v9.cell? ⟨g2, o2 + n2 * 6, none⟩ = some (.int .i64 2) ∧ v9.cell? ⟨g2, o2 + n2 * 6 + 1, none⟩ = some (.bool g.1) ∧ v9.cell? ⟨g2, o2 + n2 * 6 + 2, none⟩ = some (.int .u32 (g.2.1 : Int)) ∧ v9.cell? ⟨g2, o2 + n2 * 6 + 3, none⟩ = some (.bool g.2.2.1) ∧ v9.cell? ⟨g2, o2 + n2 * 6 + 4, none⟩ = some (.string Dg) ∧ v9.cell? ⟨g2, o2 + n2 * 6 + 5, none⟩ = some (.int .i64 0)))
                  (refine ⟨Ev1.all ?_, Ev1.all ?_, Ev1.all ?_⟩ <;> (repeat (first | with_reducible exact X0.out | with_reducible exact X1.out | with_reducible exact X2.out | with_reducible refine Ev1.drew ?_ | with_reducible refine Ev1.alloc ?_ _ | with_reducible refine Ev1.set ?_ (by (try simp) <;> omega))))
                  (fail)
                all_goals
                  go_wp2_with fail
                  go_meet
                  case rel =>
                    refine ⟨_, _, _, rfl, rfl, rfl, ?_, ?_, ?_, ?_, ?_⟩
                    · show Ev1 _ _ _ _ _ _
                      (repeat (first | (with_reducible refine Ev1.newAt ?_; simp; done) | with_reducible refine Ev1.drew ?_ | with_reducible refine Ev1.alloc ?_ _))
                    · show Ev1 _ _ _ _ _ _
                      (repeat (first | (with_reducible refine Ev1.newAt ?_; simp; done) | with_reducible refine Ev1.drew ?_ | with_reducible refine Ev1.alloc ?_ _))
                    · show Ev1 _ _ _ _ _ _
                      (repeat (first | (with_reducible refine Ev1.newAt ?_; simp; done) | with_reducible refine Ev1.drew ?_ | with_reducible refine Ev1.alloc ?_ _))
                    · show Ctx _ _ _
                      refine hC.out.more ?_
                      (repeat (first | with_reducible exact Below.refl _ _ | with_reducible refine Below.drew ?_ | with_reducible refine Below.alloc ?_ (by (try simp) <;> omega) _))
                    · show Lies _ _ _ _ _ _
                      refine LG.out.on ?_
                      (repeat (first | with_reducible exact Below.refl _ _ | with_reducible refine Below.drew ?_ | with_reducible refine Below.alloc ?_ (by (try simp) <;> omega) _))
              case rest =>
                obtain ⟨bx, by_, bz, rfl, rfl, rfl, R0, R1, R2, hCc, LGc⟩ := hcut
                clear X0 X1 X2 hC LG gl0 gl1 gl2 M0 M1 M2 M3
                have r00 := R0.out.c0
                have r01 := R0.out.c1
                have r02 := R0.out.c2
                have r03 := R0.out.c3
                have r04 := R0.out.c4
                have r10 := R1.out.c0
                have r11 := R1.out.c1
                have r12 := R1.out.c2
                have r13 := R1.out.c3
                have r14 := R1.out.c4
                have r20 := R2.out.c0
                have r21 := R2.out.c1
                have r22 := R2.out.c2
                have r23 := R2.out.c3
                have r24 := R2.out.c4
                have m0 := LGc.out.c0
                have m1 := LGc.out.c1
                have m2 := LGc.out.c2
                have m3 := LGc.out.c3
                clear R0 R1 R2 LGc
                go_wp2
                go_ret
                exact ⟨rfl, hCc.out.below⟩
theorem walkA (S : WireSpec At) (x : Bool) (n0 : Int) (r : Bool) (d : ByteArray) (w2 : (Lit.int .u32 n0).wf = true) (x' : Bool) (n0' : Int) (r' : Bool) (d' : ByteArray) (w2' : (Lit.int .u32 n0').wf = true) (a0 : Int) (w0 : (Lit.int .u8 a0).wf = true) (W : World) (hT : Tab W) :
    Calls Tryd.prog 4 #[.agg #[.bool x, .int .u32 n0, .bool r, .string d], .agg #[.bool x', .int .u32 n0', .bool r', .string d'], .int .u8 a0] W fun e w' => e = .returned (.bool true) ∧ Below W.heap.size W w' := by
  obtain ⟨n, rfl, hn⟩ := u32_nat w2
  obtain ⟨n', rfl, hn'⟩ := u32_nat w2'
  obtain ⟨b1, b2⟩ := bounds_u8 w0
  obtain ⟨A, rfl⟩ : ∃ A : Nat, a0 = (A : Int) := ⟨a0.toNat, by omega⟩
  have hd : d = ⟨((x, n, r, d.data.toList) : Cm.Fr).2.2.2.toArray⟩ := rfl
  have hd' : d' = ⟨((x', n', r', d'.data.toList) : Cm.Fr).2.2.2.toArray⟩ := rfl
  by_cases h8 : 8 < d.size
  · exact early S (x, n, r, d.data.toList) (x', n', r', d'.data.toList) d d' hd hd' _ (Or.inl h8) W hT
  by_cases h9 : 8 < d'.size
  · exact early S (x, n, r, d.data.toList) (x', n', r', d'.data.toList) d d' hd hd' _ (Or.inr (Or.inl ⟨h8, h9⟩)) W hT
  cases hf : Mm.isFr (x, n, r, d.data.toList)
  · exact early S (x, n, r, d.data.toList) (x', n', r', d'.data.toList) d d' hd hd' _ (Or.inr (Or.inr (Or.inl ⟨h8, h9, hf⟩))) W hT
  cases hg : Mm.isFr (x', n', r', d'.data.toList)
  · exact early S (x, n, r, d.data.toList) (x', n', r', d'.data.toList) d d' hd hd' _ (Or.inr (Or.inr (Or.inr ⟨h8, h9, hf, hg⟩))) W hT
  exact main S (x, n, r, d.data.toList) (x', n', r', d'.data.toList) d d' hd hd' A (by omega) h8 h9 hf hg hn hn' W hT
end Go.Proofs.YtoohmpkhljfpbaaDoor.wireTurned
