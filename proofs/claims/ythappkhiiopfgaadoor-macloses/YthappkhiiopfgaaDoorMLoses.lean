/- MacLoses: who drives a 1 within its arbitration and sees a 0 goes on as a listener, and gets the other one's frame, for every two frames of at most 20 bytes that are not of one identifier and kind (others are let by); no condition. -/
import Derived.Test.YthappkhiiopfgaaDoorMt
import Derived.Test.YthappkhiiopfgaaDoorMl3
import Derived.Test.YthappkhiiopfgaaDoorMs
import Derived.Deep.CutBlock
import Derived.ProofKit
import Derived.OpenShut
namespace Go.Proofs.YthappkhiiopfgaaDoor.macLoses
open Go.ChangeShapes Go.WideShapes Go.ChangeAt Go.RowKit
set_option linter.unusedVariables false
variable {At : World → Nat → (Nat → Prop) → Mm.St → Prop}
abbrev frO (f : Cm.Fr) : Obj := .cells #[.bool f.1, .int .u32 (f.2.1 : Int), .bool f.2.2.1, .string ⟨f.2.2.2.toArray⟩] 24
abbrev LiesF (w : World) (g : Nat) (f : Cm.Fr) : Prop := Lies w g f.1 f.2.1 f.2.2.1 ⟨f.2.2.2.toArray⟩
theorem fr_size (f : Cm.Fr) : (ByteArray.mk f.2.2.2.toArray).size = f.2.2.2.length := by show f.2.2.2.toArray.size = _; simp
theorem sample_wire {m m' : Mm.St} {u : Bool} {l : List Mm.Ev} (h : Mm.sample m u = (m', l)) : Mm.sample m (Bm.sign u != 48) = (m', l) := by rw [bit_byte]; exact h
theorem drv (m : Mm.St) : (if Mm.drive m then (49 : Int) else 48) = if Mm.drive m then 49 else 48 := rfl
set_option maxRecDepth 100000 in
set_option maxHeartbeats 4000000 in
theorem walkF (S : MacSpec At) (HK : AckSpec) (a b : Cm.Fr) (na : a.2.1 < 4294967296) (nb : b.2.1 < 4294967296) (W : World) (hT : Tab W) :
    Calls Tryd.prog 4 #[frV a, frV b] W fun e w' => e = .returned (.bool true) ∧ Below W.heap.size W w' := by
  have LA : Hid (LiesF ((W.alloc (frO a)).alloc (frO b)) W.heap.size a) := (Lies.new W _ _ _ _).alloc _
  have LB : Hid (LiesF ((W.alloc (frO a)).alloc (frO b)) (W.heap.size + 1) b) := Lies.new1 W _ _ _ _ _
  have hk := known7_any S HK _ ((hT.alloc (frO a)).alloc (frO b))
  have HT : Hid (Tab W) := hT
  have hza := fr_size a
  have hzb := fr_size b
  clear hT HK
  go_enter Tryd.func4, Tryd.ntmps4
  go_wp2_with fail
  refine hk.mono ?_
  rintro e w1 ⟨rfl, hb1⟩
  replace LA : Hid (LiesF w1 W.heap.size a) := LA.out.on hb1
  replace LB : Hid (LiesF w1 (W.heap.size + 1) b) := LB.out.on hb1
  have hA : Hid (Below W.heap.size W w1) := below_joinK (((Below.refl _ _).alloc (Nat.le_refl _) _).alloc (by simp) _) hb1 (by simp; omega)
  clear hk hb1
  have a3 := LA.out.c3
  have b3 := LB.out.c3
  by_cases ca : 20 < a.2.2.2.length
  · go_wp2
    go_ret
    exact ⟨rfl, hA.out⟩
  by_cases cb : 20 < b.2.2.2.length
  · go_wp2
    go_ret
    exact ⟨rfl, hA.out⟩
  have hC : Hid (Ctx W (fun g => w1.heap.size ≤ g) w1) := Ctx.from HT.out hA.out
  have LAP : Hid (¬ w1.heap.size ≤ W.heap.size) := by have := LA.out.lt; show ¬ _; omega
  have LBP : Hid (¬ w1.heap.size ≤ W.heap.size + 1) := by have := LB.out.lt; show ¬ _; omega
  clear hA
  go_wp2_with fail
  refine (am_new S hC.out).mono ?_
  rintro e w2 ⟨p, rfl, O', C', hk'⟩
  replace hC : Hid (Ctx W (fun g => w1.heap.size ≤ g) w2) := C'
  have OM : Hid (OwnM At (fun g => w1.heap.size ≤ g) w2 p Mm.fresh) := O'
  replace LA : Hid (LiesF w2 W.heap.size a) := LA.out.kept hk' LAP.out
  replace LB : Hid (LiesF w2 (W.heap.size + 1) b) := LB.out.kept hk' LBP.out
  clear O' C' hk' a3 b3
  go_wp2_with fail
  refine (dbl_new S OM.out hC.out).mono ?_
  rintro e w3 ⟨q, rfl, D', C', hk'⟩
  replace hC : Hid (Ctx W (fun g => w1.heap.size ≤ g) w3) := C'
  have DM : Hid (Dbl At (fun g => w1.heap.size ≤ g) w3 p (Mm.p5 0) q (Mm.p5 0)) := D'
  replace LA : Hid (LiesF w3 W.heap.size a) := LA.out.kept hk' LAP.out
  replace LB : Hid (LiesF w3 (W.heap.size + 1) b) := LB.out.kept hk' LBP.out
  clear OM D' C' hk'
  go_wp2_with fail
  go_loopw [7] (fun i wr => ∃ k : Nat, k ≤ 5 ∧ i = .int .i64 k ∧ Hid (Dbl At (fun g => w1.heap.size ≤ g) wr p (Mm.p5 k) q (Mm.p5 k)) ∧ Hid (Ctx W (fun g => w1.heap.size ≤ g) wr) ∧ Hid (LiesF wr W.heap.size a) ∧ Hid (LiesF wr (W.heap.size + 1) b)) (fun i _ => 5 - (intOf i).toNat)
  case atStart => exact ⟨0, by decide, rfl, DM, hC, LA, LB⟩
  case round =>
    clear DM hC LA LB
    obtain ⟨k, hk, rfl, DM, hC, LA, LB⟩ := hrel
    by_cases hlt : k < 5
    · go_wp2_with fail
      refine (dbl_sample S 49 (Mm.p5_one k hlt) DM.out hC.out).mono ?_
      rintro e w4 ⟨sl, cp, rfl, D', C', hk'⟩
      replace hC : Hid (Ctx W (fun g => w1.heap.size ≤ g) w4) := C'
      replace DM : Hid (Dbl At (fun g => w1.heap.size ≤ g) w4 p (Mm.p5 (k + 1)) q (Mm.p5 k)) := D'
      replace LA : Hid (LiesF w4 W.heap.size a) := LA.out.kept hk' LAP.out
      replace LB : Hid (LiesF w4 (W.heap.size + 1) b) := LB.out.kept hk' LBP.out
      clear D' C' hk'
      go_wp2_with fail
      refine (dbl_sample S 49 (Mm.p5_one k hlt) DM.out.swap hC.out).mono ?_
      rintro e w5 ⟨sl', cp', rfl, D', C', hk'⟩
      replace hC : Hid (Ctx W (fun g => w1.heap.size ≤ g) w5) := C'
      replace DM : Hid (Dbl At (fun g => w1.heap.size ≤ g) w5 p (Mm.p5 (k + 1)) q (Mm.p5 (k + 1))) := D'.swap
      replace LA : Hid (LiesF w5 W.heap.size a) := LA.out.kept hk' LAP.out
      replace LB : Hid (LiesF w5 (W.heap.size + 1) b) := LB.out.kept hk' LBP.out
      clear D' C' hk'
      go_wp2
      exact ⟨⟨k + 1, by omega, by simp, DM, hC, LA, LB⟩, by simp [intOf]; omega⟩
    · have h5 : k = 5 := by omega
      have DM5 : Hid (Dbl At (fun g => w1.heap.size ≤ g) wr p (Mm.p5 5) q (Mm.p5 5)) := h5 ▸ DM
      clear DM h5
      go_upto_region 11 with fail
      go_cut [70] from 40 to 70 (fun v wx => (v = .bool true ∧ Hid (Below W.heap.size W wx)) ∨ (v = .bool false ∧ Mm.isFr a = true ∧ Mm.isFr b = true ∧ ¬ (a.2.1 = b.2.1 ∧ a.1 = b.1 ∧ a.2.2.1 = b.2.2.1) ∧ Hid (Dbl At (fun g => w1.heap.size ≤ g) wx p { Mm.p5 5 with has := true, f := a } q { Mm.p5 5 with has := true, f := b }) ∧ Hid (Ctx W (fun g => w1.heap.size ≤ g) wx) ∧ Hid (LiesF wx W.heap.size a) ∧ Hid (LiesF wx (W.heap.size + 1) b)))
      case first =>
        have a0 := LA.out.c0
        have b0 := LB.out.c0
        have a1 := LA.out.c1
        have b1 := LB.out.c1
        have a2 := LA.out.c2
        have b2 := LB.out.c2
        have a3 := LA.out.c3
        have b3 := LB.out.c3
        cases ia : Mm.isFr a
        · go_wp2_with fail
          refine (dbl_ask S a (by rw [Mm.p5_ask, if_pos ia]) na (by omega) DM5.out hC.out).mono ?_
          rintro e w6 ⟨rfl, D', C', hk'⟩
          have hA : Hid (Below W.heap.size W w6) := C'.below
          clear D' C' hk'
          go_wp2
          go_meet
          case rel => exact Or.inl ⟨rfl, hA⟩
        · go_wp2_with fail
          refine (dbl_ask S a (by rw [Mm.p5_ask, if_neg (by rw [ia]; decide)]) na (by omega) DM5.out hC.out).mono ?_
          rintro e w6 ⟨rfl, D', C', hk'⟩
          replace hC : Hid (Ctx W (fun g => w1.heap.size ≤ g) w6) := C'
          have DM : Hid (Dbl At (fun g => w1.heap.size ≤ g) w6 p { Mm.p5 5 with has := true, f := a } q (Mm.p5 5)) := D'
          replace LA : Hid (LiesF w6 W.heap.size a) := LA.out.kept hk' LAP.out
          replace LB : Hid (LiesF w6 (W.heap.size + 1) b) := LB.out.kept hk' LBP.out
          clear D' C' hk' DM5 a0 a1 a2 a3 b0 b1 b2 b3
          have a0 := LA.out.c0
          have b0 := LB.out.c0
          have a1 := LA.out.c1
          have b1 := LB.out.c1
          have a2 := LA.out.c2
          have b2 := LB.out.c2
          have a3 := LA.out.c3
          have b3 := LB.out.c3
          cases ib : Mm.isFr b
          · go_wp2_with fail
            refine (dbl_ask S b (by rw [Mm.p5_ask, if_pos ib]) nb (by omega) DM.out.swap hC.out).mono ?_
            rintro e w7 ⟨rfl, D', C', hk'⟩
            have hA : Hid (Below W.heap.size W w7) := C'.below
            clear D' C' hk'
            go_wp2
            go_meet
            case rel => exact Or.inl ⟨rfl, hA⟩
          · go_wp2_with fail
            refine (dbl_ask S b (by rw [Mm.p5_ask, if_neg (by rw [ib]; decide)]) nb (by omega) DM.out.swap hC.out).mono ?_
            rintro e w7 ⟨rfl, D', C', hk'⟩
            replace hC : Hid (Ctx W (fun g => w1.heap.size ≤ g) w7) := C'
            replace DM : Hid (Dbl At (fun g => w1.heap.size ≤ g) w7 p { Mm.p5 5 with has := true, f := a } q { Mm.p5 5 with has := true, f := b }) := D'.swap
            replace LA : Hid (LiesF w7 W.heap.size a) := LA.out.kept hk' LAP.out
            replace LB : Hid (LiesF w7 (W.heap.size + 1) b) := LB.out.kept hk' LBP.out
            clear D' C' hk' a0 a1 a2 a3 b0 b1 b2 b3
            have a0 := LA.out.c0
            have b0 := LB.out.c0
            have a1 := LA.out.c1
            have b1 := LB.out.c1
            have a2 := LA.out.c2
            have b2 := LB.out.c2
            have a3 := LA.out.c3
            have b3 := LB.out.c3
            by_cases c1 : a.2.1 = b.2.1
            · have c1' : ((a.2.1 : Int) == (b.2.1 : Int)) = true := beq_iff_eq.2 (by omega)
              by_cases c2 : a.1 = b.1
              · have c2' : (a.1 == b.1) = true := beq_iff_eq.2 c2
                by_cases c3 : a.2.2.1 = b.2.2.1
                · have c3' : (a.2.2.1 == b.2.2.1) = true := beq_iff_eq.2 c3
                  have hA : Hid (Below W.heap.size W w7) := hC.out.below
                  clear c1 c2 c3
                  go_wp2
                  go_meet
                  case rel => exact Or.inl ⟨rfl, hA⟩
                · have c3' : (a.2.2.1 == b.2.2.1) = false := beq_eq_false_iff_ne.2 c3
                  have HN : Hid (¬ (a.2.1 = b.2.1 ∧ a.1 = b.1 ∧ a.2.2.1 = b.2.2.1)) := fun h => c3 h.2.2
                  clear c1 c2 c3
                  go_wp2
                  go_meet
                  case rel => exact Or.inr ⟨rfl, ia, ib, HN.out, DM, hC, LA, LB⟩
              · have c2' : (a.1 == b.1) = false := beq_eq_false_iff_ne.2 c2
                have HN : Hid (¬ (a.2.1 = b.2.1 ∧ a.1 = b.1 ∧ a.2.2.1 = b.2.2.1)) := fun h => c2 h.2.1
                clear c1 c2
                go_wp2
                go_meet
                case rel => exact Or.inr ⟨rfl, ia, ib, HN.out, DM, hC, LA, LB⟩
            · have c1' : ((a.2.1 : Int) == (b.2.1 : Int)) = false := beq_eq_false_iff_ne.2 (by omega)
              have HN : Hid (¬ (a.2.1 = b.2.1 ∧ a.1 = b.1 ∧ a.2.2.1 = b.2.2.1)) := fun h => c1 h.1
              clear c1
              go_wp2
              go_meet
              case rel => exact Or.inr ⟨rfl, ia, ib, HN.out, DM, hC, LA, LB⟩
      case rest =>
        clear DM5 hC LA LB
        rcases hcut with ⟨rfl, hA⟩ | ⟨rfl, ia, ib, hne, DM, hC, LA, LB⟩
        · go_wp2
          go_ret
          exact ⟨rfl, hA.out⟩
        obtain ⟨F, G, j, I, hF, hFab, j1, hj, hI0, hIs⟩ := Mm.race ia ib hne
        have HI0 : Hid (_) := hI0
        have HIs : Hid (_) := hIs
        have HFab : Hid (F = a ∨ F = b) := hFab
        have HNE : Hid (¬ (a.2.1 = b.2.1 ∧ a.1 = b.1 ∧ a.2.2.1 = b.2.2.1)) := hne
        have hL := Mm.out_len hF
        clear hI0 hIs hFab hne ia ib na nb
        go_wp2_with fail
        refine (thr_new S DM.out hC.out).mono ?_
        rintro e w8 ⟨z, rfl, T', C', hk'⟩
        replace hC : Hid (Ctx W (fun g => w1.heap.size ≤ g) w8) := C'
        have TM : Hid (Thr At (fun g => w1.heap.size ≤ g) w8 p { Mm.p5 5 with has := true, f := a } q { Mm.p5 5 with has := true, f := b } z (Mm.p5 0) (fun _ => False)) := T'
        replace LA : Hid (LiesF w8 W.heap.size a) := LA.out.kept hk' LAP.out
        replace LB : Hid (LiesF w8 (W.heap.size + 1) b) := LB.out.kept hk' LBP.out
        clear T' C' hk' DM
        go_wp2_with fail
        go_loopw [9] (fun i wr => ∃ k : Nat, k ≤ 5 ∧ i = .int .i64 k ∧ Hid (Thr At (fun g => w1.heap.size ≤ g) wr p { Mm.p5 5 with has := true, f := a } q { Mm.p5 5 with has := true, f := b } z (Mm.p5 k) (fun _ => False)) ∧ Hid (Ctx W (fun g => w1.heap.size ≤ g) wr) ∧ Hid (LiesF wr W.heap.size a) ∧ Hid (LiesF wr (W.heap.size + 1) b)) (fun i _ => 5 - (intOf i).toNat)
        case atStart => exact ⟨0, by decide, rfl, TM, hC, LA, LB⟩
        case round =>
          clear TM hC LA LB
          obtain ⟨n, hn, rfl, TM, hC, LA, LB⟩ := hrel
          by_cases hnt : n < 5
          · go_wp2_with fail
            refine (thr_sample S 49 (Mm.p5_one n hnt) TM.out.rot.rot hC.out).mono ?_
            rintro e w9 ⟨sl, cp, rfl, hE', T', C', hk', hs'⟩
            replace hC : Hid (Ctx W (fun g => w1.heap.size ≤ g) w9) := C'
            replace TM : Hid (Thr At (fun g => w1.heap.size ≤ g) w9 p { Mm.p5 5 with has := true, f := a } q { Mm.p5 5 with has := true, f := b } z (Mm.p5 (n + 1)) (fun _ => False)) := (T'.rot).free (fun g h => h.elim)
            replace LA : Hid (LiesF w9 W.heap.size a) := LA.out.kept hk' LAP.out
            replace LB : Hid (LiesF w9 (W.heap.size + 1) b) := LB.out.kept hk' LBP.out
            clear hE' T' C' hk' hs'
            go_wp2
            exact ⟨⟨n + 1, by omega, by simp, TM, hC, LA, LB⟩, by simp [intOf]; omega⟩
          · have h5 : n = 5 := by omega
            have TM5 : Hid (Thr At (fun g => w1.heap.size ≤ g) wr p { Mm.p5 5 with has := true, f := a } q { Mm.p5 5 with has := true, f := b } z (Mm.p5 5) (fun _ => False)) := h5 ▸ TM
            clear TM h5
            go_wp2_with fail
            have hbl : Below wr.heap.size wr (wr.alloc (frO Cm.noF)) := (Below.refl _ _).alloc (Nat.le_refl _) _
            have LW : Hid (LiesF (wr.alloc (frO Cm.noF)) wr.heap.size Cm.noF) := Lies.new wr _ _ _ _
            have hC2 : Hid (Ctx W (fun g => w1.heap.size ≤ g ∧ g ≠ wr.heap.size) (wr.alloc (frO Cm.noF))) := (hC.out.more hbl).avoid wr.heap.size (by simp)
            have TM2 : Hid (Thr At (fun g => w1.heap.size ≤ g ∧ g ≠ wr.heap.size) (wr.alloc (frO Cm.noF)) p { Mm.p5 5 with has := true, f := a } q { Mm.p5 5 with has := true, f := b } z (Mm.p5 5) (fun _ => False)) := (TM5.out.avoid S wr.heap.size (Nat.le_refl _)).on S (fun k hk _ => hbl.block k hk) (fun g h => h.elim)
            replace LA : Hid (LiesF (wr.alloc (frO Cm.noF)) W.heap.size a) := LA.out.on hbl
            replace LB : Hid (LiesF (wr.alloc (frO Cm.noF)) (W.heap.size + 1) b) := LB.out.on hbl
            have hsz : w1.heap.size ≤ wr.heap.size := by
              have h1 := hC.out.room wr.heap.size (Nat.le_refl _)
              exact h1
            clear hC TM5 hbl
            have HI1 : Hid (I 0 { Mm.p5 5 with has := true, f := a } { Mm.p5 5 with has := true, f := b } (Mm.p5 5)) := HI0.out _ _ _ rfl rfl rfl rfl rfl rfl rfl rfl
            clear HI0
            obtain ⟨w0, hw0⟩ : ∃ w0, w0 = wr := ⟨_, rfl⟩
            rw [← hw0] at hC2 TM2 LA LB LW hsz ⊢
            clear hw0
            go_loopw [10, 11, 12, 14] (fun g l sn i wx => ∃ (n : Nat) (x y c : Mm.St), n ≤ (Mm.outB F).length ∧ g = .int .i64 (Mm.gotAt F n : Int) ∧ l = .int .i64 (Mm.losAt j n : Int) ∧ sn = .int .i64 (Mm.senAt F n : Int) ∧ i = .int .i64 n ∧ Hid (I n x y c) ∧ Hid (Thr At (fun g => w1.heap.size ≤ g ∧ g ≠ w0.heap.size) wx p x q y z c (fun _ => False)) ∧ Hid (Ctx W (fun g => w1.heap.size ≤ g ∧ g ≠ w0.heap.size) wx) ∧ Hid (LiesF wx W.heap.size a) ∧ Hid (LiesF wx (W.heap.size + 1) b) ∧ Hid (LiesF wx w0.heap.size (Mm.wonAt F n))) (fun _ _ _ i _ => (Mm.outB F).length - (intOf i).toNat)
            case atStart => exact ⟨0, _, _, _, Nat.zero_le _, by rw [show Mm.gotAt F 0 = 0 from if_neg (by omega)]; rfl, by rw [show Mm.losAt j 0 = 0 from if_neg (by omega)]; rfl, by rw [show Mm.senAt F 0 = 0 from if_neg (by omega)]; rfl, rfl, HI1, TM2, hC2, LA, LB, by rw [show Mm.wonAt F 0 = Cm.noF from if_neg (by omega)]; exact LW⟩
            case round =>
              clear HI1 TM2 hC2 LA LB LW
              obtain ⟨m, x, y, c, hm, rfl, rfl, rfl, rfl, HI, TM, hC, LA, LB, LW⟩ := hrel
              by_cases hmt : m < (Mm.outB F).length
              · have hs0 : Mm.senAt F m = 0 := if_neg (by omega)
                rw [hs0]
                obtain ⟨x', y', c', e1, e2, e3, hd, s1, s2, s3, hI', hev⟩ := HIs.out m x y c hmt HI.out
                have HD : Hid (_) := hd
                have H1 : Hid (_) := sample_wire s1
                have H2 : Hid (_) := sample_wire s2
                have H3 : Hid (_) := sample_wire s3
                have HI2 : Hid (I (m + 1) x' y' c') := hI'
                have HEV : Hid (_) := hev
                clear hd s1 s2 s3 hI' hev HI
                go_upto_region 24 with fail
                go_cut [98] from 86 to 98 (fun v wx => v = .bool (!(Mm.wire F m)) ∧ Hid (Thr At (fun g => w1.heap.size ≤ g ∧ g ≠ w0.heap.size) wx p x q y z c (fun _ => False)) ∧ Hid (Ctx W (fun g => w1.heap.size ≤ g ∧ g ≠ w0.heap.size) wx) ∧ Hid (LiesF wx W.heap.size a) ∧ Hid (LiesF wx (W.heap.size + 1) b) ∧ Hid (LiesF wx w0.heap.size (Mm.wonAt F m)))
                case first =>
                  cases dx : Mm.drive x
                  · rw [dx] at HD
                    go_wp2_with fail
                    refine (thr_drive S (v := 48) (by rw [dx]; rfl) TM.out hC.out).mono ?_
                    rintro e w2a ⟨rfl, T', C', hk'⟩
                    replace hC : Hid (Ctx W (fun g => w1.heap.size ≤ g ∧ g ≠ w0.heap.size) w2a) := C'
                    replace TM : Hid (Thr At (fun g => w1.heap.size ≤ g ∧ g ≠ w0.heap.size) w2a p x q y z c (fun _ => False)) := T'
                    replace LA : Hid (LiesF w2a W.heap.size a) := LA.out.kept hk' (fun h => LAP.out h.1)
                    replace LB : Hid (LiesF w2a (W.heap.size + 1) b) := LB.out.kept hk' (fun h => LBP.out h.1)
                    replace LW : Hid (LiesF w2a w0.heap.size (Mm.wonAt F m)) := LW.out.kept hk' (fun h => h.2 rfl)
                    clear T' C' hk'
                    go_wp2
                    go_meet
                    case rel => exact ⟨by rw [← HD.out]; rfl, TM, hC, LA, LB, LW⟩
                  · rw [dx] at HD
                    go_wp2_with fail
                    refine (thr_drive S (v := 49) (by rw [dx]; rfl) TM.out hC.out).mono ?_
                    rintro e w2a ⟨rfl, T', C', hk'⟩
                    replace hC : Hid (Ctx W (fun g => w1.heap.size ≤ g ∧ g ≠ w0.heap.size) w2a) := C'
                    replace TM : Hid (Thr At (fun g => w1.heap.size ≤ g ∧ g ≠ w0.heap.size) w2a p x q y z c (fun _ => False)) := T'
                    replace LA : Hid (LiesF w2a W.heap.size a) := LA.out.kept hk' (fun h => LAP.out h.1)
                    replace LB : Hid (LiesF w2a (W.heap.size + 1) b) := LB.out.kept hk' (fun h => LBP.out h.1)
                    replace LW : Hid (LiesF w2a w0.heap.size (Mm.wonAt F m)) := LW.out.kept hk' (fun h => h.2 rfl)
                    clear T' C' hk'
                    cases dy : Mm.drive y
                    · rw [dy] at HD
                      go_wp2_with fail
                      refine (thr_drive S (v := 48) (by rw [dy]; rfl) TM.out.rot hC.out).mono ?_
                      rintro e w2b ⟨rfl, T', C', hk'⟩
                      replace hC : Hid (Ctx W (fun g => w1.heap.size ≤ g ∧ g ≠ w0.heap.size) w2b) := C'
                      replace TM : Hid (Thr At (fun g => w1.heap.size ≤ g ∧ g ≠ w0.heap.size) w2b p x q y z c (fun _ => False)) := T'.rot.rot
                      replace LA : Hid (LiesF w2b W.heap.size a) := LA.out.kept hk' (fun h => LAP.out h.1)
                      replace LB : Hid (LiesF w2b (W.heap.size + 1) b) := LB.out.kept hk' (fun h => LBP.out h.1)
                      replace LW : Hid (LiesF w2b w0.heap.size (Mm.wonAt F m)) := LW.out.kept hk' (fun h => h.2 rfl)
                      clear T' C' hk'
                      go_wp2
                      go_meet
                      case rel => exact ⟨by rw [← HD.out]; rfl, TM, hC, LA, LB, LW⟩
                    · rw [dy] at HD
                      go_wp2_with fail
                      refine (thr_drive S (v := 49) (by rw [dy]; rfl) TM.out.rot hC.out).mono ?_
                      rintro e w2b ⟨rfl, T', C', hk'⟩
                      replace hC : Hid (Ctx W (fun g => w1.heap.size ≤ g ∧ g ≠ w0.heap.size) w2b) := C'
                      replace TM : Hid (Thr At (fun g => w1.heap.size ≤ g ∧ g ≠ w0.heap.size) w2b p x q y z c (fun _ => False)) := T'.rot.rot
                      replace LA : Hid (LiesF w2b W.heap.size a) := LA.out.kept hk' (fun h => LAP.out h.1)
                      replace LB : Hid (LiesF w2b (W.heap.size + 1) b) := LB.out.kept hk' (fun h => LBP.out h.1)
                      replace LW : Hid (LiesF w2b w0.heap.size (Mm.wonAt F m)) := LW.out.kept hk' (fun h => h.2 rfl)
                      clear T' C' hk'
                      cases dc : Mm.drive c
                      · rw [dc] at HD
                        go_wp2_with fail
                        refine (thr_drive S (v := 48) (by rw [dc]; rfl) TM.out.rot.rot hC.out).mono ?_
                        rintro e w2c ⟨rfl, T', C', hk'⟩
                        replace hC : Hid (Ctx W (fun g => w1.heap.size ≤ g ∧ g ≠ w0.heap.size) w2c) := C'
                        replace TM : Hid (Thr At (fun g => w1.heap.size ≤ g ∧ g ≠ w0.heap.size) w2c p x q y z c (fun _ => False)) := T'.rot
                        replace LA : Hid (LiesF w2c W.heap.size a) := LA.out.kept hk' (fun h => LAP.out h.1)
                        replace LB : Hid (LiesF w2c (W.heap.size + 1) b) := LB.out.kept hk' (fun h => LBP.out h.1)
                        replace LW : Hid (LiesF w2c w0.heap.size (Mm.wonAt F m)) := LW.out.kept hk' (fun h => h.2 rfl)
                        clear T' C' hk'
                        go_wp2
                        go_meet
                        case rel => exact ⟨by rw [← HD.out]; rfl, TM, hC, LA, LB, LW⟩
                      · rw [dc] at HD
                        go_wp2_with fail
                        refine (thr_drive S (v := 49) (by rw [dc]; rfl) TM.out.rot.rot hC.out).mono ?_
                        rintro e w2c ⟨rfl, T', C', hk'⟩
                        replace hC : Hid (Ctx W (fun g => w1.heap.size ≤ g ∧ g ≠ w0.heap.size) w2c) := C'
                        replace TM : Hid (Thr At (fun g => w1.heap.size ≤ g ∧ g ≠ w0.heap.size) w2c p x q y z c (fun _ => False)) := T'.rot
                        replace LA : Hid (LiesF w2c W.heap.size a) := LA.out.kept hk' (fun h => LAP.out h.1)
                        replace LB : Hid (LiesF w2c (W.heap.size + 1) b) := LB.out.kept hk' (fun h => LBP.out h.1)
                        replace LW : Hid (LiesF w2c w0.heap.size (Mm.wonAt F m)) := LW.out.kept hk' (fun h => h.2 rfl)
                        clear T' C' hk'
                        go_wp2
                        go_meet
                        case rel => exact ⟨by rw [← HD.out]; rfl, TM, hC, LA, LB, LW⟩
                case rest =>
                  clear TM hC LA LB LW HD
                  obtain ⟨rfl, TM, hC, LA, LB, LW⟩ := hcut
                  go_upto_if 98 with fail
                  go_cut [15] from 86 to 98 (fun v wx => v = .int .u8 ((Bm.sign (Mm.wire F m)).toNat : Int) ∧ Hid (Thr At (fun g => w1.heap.size ≤ g ∧ g ≠ w0.heap.size) wx p x q y z c (fun _ => False)) ∧ Hid (Ctx W (fun g => w1.heap.size ≤ g ∧ g ≠ w0.heap.size) wx) ∧ Hid (LiesF wx W.heap.size a) ∧ Hid (LiesF wx (W.heap.size + 1) b) ∧ Hid (LiesF wx w0.heap.size (Mm.wonAt F m)))
                  case first =>
                    cases hu : (Mm.wire F m)
                    · go_wp2
                      go_meet
                      case rel => exact ⟨by rw [hu]; rfl, TM, hC, LA, LB, LW⟩
                    · go_wp2
                      go_meet
                      case rel => exact ⟨by rw [hu]; rfl, TM, hC, LA, LB, LW⟩
                  case rest =>
                    clear TM hC LA LB LW
                    obtain ⟨rfl, TM, hC, LA, LB, LW⟩ := hcut
                    have hwl := LW.out.lt
                    go_wp2_with fail
                    refine (thr_sample S _ H1.out TM.out hC.out).mono ?_
                    rintro e wa ⟨sa, ca, rfl, Ea, T', C', hk', hs'⟩
                    replace hC : Hid (Ctx W (fun g => w1.heap.size ≤ g ∧ g ≠ w0.heap.size) wa) := C'
                    have TA : Hid (Thr At (fun g => w1.heap.size ≤ g ∧ g ≠ w0.heap.size) wa q y z c p x' (fun g => ∃ o, sa = some ⟨g, o, none⟩)) := (T'.free (fun g h => Or.inr h)).rot
                    have EA : Hid (EvAt wc.heap.size wa sa ca e1) := Ea
                    replace LA : Hid (LiesF wa W.heap.size a) := LA.out.kept hk' (fun h => LAP.out h.1)
                    replace LB : Hid (LiesF wa (W.heap.size + 1) b) := LB.out.kept hk' (fun h => LBP.out h.1)
                    replace LW : Hid (LiesF wa w0.heap.size (Mm.wonAt F m)) := LW.out.kept hk' (fun h => h.2 rfl)
                    have hsa : wc.heap.size ≤ wa.heap.size := hk'.size
                    clear T' C' hk' hs' Ea TM
                    go_wp2_with fail
                    refine (thr_sample S _ H2.out TA.out hC.out).mono ?_
                    rintro e wb ⟨sb, cb, rfl, Eb, T', C', hk', hs'⟩
                    replace hC : Hid (Ctx W (fun g => w1.heap.size ≤ g ∧ g ≠ w0.heap.size) wb) := C'
                    have TB : Hid (Thr At (fun g => w1.heap.size ≤ g ∧ g ≠ w0.heap.size) wb q y' z c p x' (fun g => ∃ o, sa = some ⟨g, o, none⟩)) := T'.free (fun g ⟨o, h⟩ => Or.inl ⟨⟨o, h⟩, (EA.out.zero g o h).2.2⟩)
                    replace EA : Hid (EvAt wc.heap.size wb sa ca e1) := EA.out.on (fun g o h => hs' g ⟨o, h⟩ (EA.out.zero g o h).2.2)
                    have EB : Hid (EvAt wa.heap.size wb sb cb e2) := Eb
                    replace LA : Hid (LiesF wb W.heap.size a) := LA.out.kept hk' (fun h => LAP.out h.1)
                    replace LB : Hid (LiesF wb (W.heap.size + 1) b) := LB.out.kept hk' (fun h => LBP.out h.1)
                    replace LW : Hid (LiesF wb w0.heap.size (Mm.wonAt F m)) := LW.out.kept hk' (fun h => h.2 rfl)
                    have hsb : wa.heap.size ≤ wb.heap.size := hk'.size
                    clear T' C' hk' hs' Eb TA
                    have HLEN : Hid (e1.length + e2.length + e3.length ≤ 3) := by
                      show _ ≤ _
                      have h := Mm.evs_len F G j m
                      rw [← HEV.out, List.length_append, List.length_append] at h
                      exact h
                    go_wp2_with (refine wpList_append_ev rfl (.tmp 101) (.tmp 104) rfl rfl rfl rfl rfl EA.out EB.out (Nat.le_trans hsa hsb) (by have := HLEN.out; omega) ?_; intro sd cd wd Ed' Gd' Nd'; have hx := TB.out.grown S hC.out Gd' (fun k o h => ⟨⟨o, h⟩, by have := (EA.out.zero k o h).2.1; exact ⟨by omega, by omega⟩⟩) EA.out.plain Nd'; have TD : Hid (Thr At (fun g => w1.heap.size ≤ g ∧ g ≠ w0.heap.size) wd z c p x' q y' (fun g => ∃ o, sd = some ⟨g, o, none⟩)) := hx.1.rot; have hCd : Hid (Ctx W (fun g => w1.heap.size ≤ g ∧ g ≠ w0.heap.size) wd) := hx.2.1; have HKd : Hid (Kept (fun g => w1.heap.size ≤ g ∧ g ≠ w0.heap.size) wb wd) := hx.2.2; have ED : Hid (EvAt wc.heap.size wd sd cd (e1 ++ e2)) := Ed'; clear hx Ed' Gd' Nd')
                    have hk' := HKd.out
                    replace LA : Hid (LiesF wd W.heap.size a) := LA.out.kept hk' (fun h => LAP.out h.1)
                    replace LB : Hid (LiesF wd (W.heap.size + 1) b) := LB.out.kept hk' (fun h => LBP.out h.1)
                    replace LW : Hid (LiesF wd w0.heap.size (Mm.wonAt F m)) := LW.out.kept hk' (fun h => h.2 rfl)
                    have hsd : wb.heap.size ≤ wd.heap.size := hk'.size
                    clear hk' HKd hC TB EA EB
                    refine (thr_sample S _ H3.out TD.out hCd.out).mono ?_
                    rintro e we ⟨se, ce, rfl, Ee, T', C', hk', hs'⟩
                    have hC : Hid (Ctx W (fun g => w1.heap.size ≤ g ∧ g ≠ w0.heap.size) we) := C'
                    have TE : Hid (Thr At (fun g => w1.heap.size ≤ g ∧ g ≠ w0.heap.size) we z c' p x' q y' (fun g => ∃ o, sd = some ⟨g, o, none⟩)) := T'.free (fun g ⟨o, h⟩ => Or.inl ⟨⟨o, h⟩, (ED.out.zero g o h).2.2⟩)
                    replace ED : Hid (EvAt wc.heap.size we sd cd (e1 ++ e2)) := ED.out.on (fun g o h => hs' g ⟨o, h⟩ (ED.out.zero g o h).2.2)
                    have EE : Hid (EvAt wd.heap.size we se ce e3) := Ee
                    replace LA : Hid (LiesF we W.heap.size a) := LA.out.kept hk' (fun h => LAP.out h.1)
                    replace LB : Hid (LiesF we (W.heap.size + 1) b) := LB.out.kept hk' (fun h => LBP.out h.1)
                    replace LW : Hid (LiesF we w0.heap.size (Mm.wonAt F m)) := LW.out.kept hk' (fun h => h.2 rfl)
                    have hse : wd.heap.size ≤ we.heap.size := hk'.size
                    clear T' C' hk' hs' Ee TD hCd
                    have hl12 : (e1 ++ e2).length = e1.length + e2.length := List.length_append
                    go_wp2_with (refine wpList_append_ev rfl (.tmp 105) (.tmp 108) rfl rfl rfl (by rw [hl12]) rfl ED.out EE.out (by omega) (by rw [hl12]; have := HLEN.out; omega) ?_; intro sf cf wf Ef' Gf' Nf'; have hx := TE.out.grown S hC.out Gf' (fun k o h => ⟨⟨o, h⟩, by have := (ED.out.zero k o h).2.1; exact ⟨by omega, by omega⟩⟩) ED.out.plain Nf'; have TF : Hid (Thr At (fun g => w1.heap.size ≤ g ∧ g ≠ w0.heap.size) wf p x' q y' z c' (fun _ => False)) := (hx.1.rot).free (fun g h => h.elim); have hCf : Hid (Ctx W (fun g => w1.heap.size ≤ g ∧ g ≠ w0.heap.size) wf) := hx.2.1; have HKf : Hid (Kept (fun g => w1.heap.size ≤ g ∧ g ≠ w0.heap.size) we wf) := hx.2.2; have EF : Hid (EvAt wc.heap.size wf sf cf (e1 ++ e2 ++ e3)) := Ef'; clear hx Ef' Gf' Nf')
                    have hk' := HKf.out
                    replace LA : Hid (LiesF wf W.heap.size a) := LA.out.kept hk' (fun h => LAP.out h.1)
                    replace LB : Hid (LiesF wf (W.heap.size + 1) b) := LB.out.kept hk' (fun h => LBP.out h.1)
                    replace LW : Hid (LiesF wf w0.heap.size (Mm.wonAt F m)) := LW.out.kept hk' (fun h => h.2 rfl)
                    clear hk' HKf hC TE ED EE H1 H2 H3 hl12
                    have hn : e1.length + e2.length + e3.length = (Mm.evs F G j m).length := by rw [← HEV.out, List.length_append, List.length_append]
                    replace EF : Hid (EvAt wc.heap.size wf sf cf (Mm.evs F G j m)) := by have h := EF.out; rw [HEV.out] at h; exact h
                    have hnl := HLEN.out
                    clear HEV
                    rw [hn] at hnl HLEN ⊢
                    have HKD : Hid (∀ v ∈ (Mm.evs F G j m), v.k = 1 ∨ v.k = 2 ∨ v.k = 3 ∨ v.k = 6) := Mm.evs_kind F G j m
                    have HCNT : Hid (_) := Mm.count_step F G j m hL.1 j1 hj hmt
                    have hwb : W.heap.size ≤ w0.heap.size := by have := LAP.out; omega
                    have hwa : W.heap.size ≠ w0.heap.size := by have := LAP.out; omega
                    have hwa2 : W.heap.size + 1 ≠ w0.heap.size := by have := LBP.out; omega
                    go_wp2_with fail
                    go_loopw [10, 11, 12, 17] (fun g l sn i wy => ∃ t : Nat, t ≤ (Mm.evs F G j m).length ∧ g = .int .i64 ((Mm.gotAt F m + Mm.tal 2 ((Mm.evs F G j m).take t) : Nat) : Int) ∧ l = .int .i64 ((Mm.losAt j m + Mm.tal 3 ((Mm.evs F G j m).take t) : Nat) : Int) ∧ sn = .int .i64 ((Mm.tal 1 ((Mm.evs F G j m).take t) : Nat) : Int) ∧ i = .int .i64 t ∧ Hid (Thr At (fun g => w1.heap.size ≤ g ∧ g ≠ w0.heap.size) wy p x' q y' z c' (fun _ => False)) ∧ Hid (Ctx W (fun g => w1.heap.size ≤ g ∧ g ≠ w0.heap.size) wy) ∧ Hid (LiesF wy W.heap.size a) ∧ Hid (LiesF wy (W.heap.size + 1) b) ∧ Hid (LiesF wy w0.heap.size (Mm.wonOf (Mm.wonAt F m) ((Mm.evs F G j m).take t))) ∧ Hid (EvAt wc.heap.size wy sf cf (Mm.evs F G j m))) (fun _ _ _ i _ => (Mm.evs F G j m).length - (intOf i).toNat)
                    case atStart => exact ⟨0, Nat.zero_le _, rfl, rfl, rfl, rfl, TF, hCf, LA, LB, LW, EF⟩
                    case round =>
                      clear TF hCf LA LB LW EF
                      obtain ⟨t, ht, rfl, rfl, rfl, rfl, TF, hCf, LA, LB, LW, EF⟩ := hrel
                      by_cases htn : t < (Mm.evs F G j m).length
                      · obtain ⟨v, hv⟩ : ∃ v, (Mm.evs F G j m)[t]? = some v := ⟨_, List.getElem?_eq_getElem htn⟩
                        have htk : (Mm.evs F G j m).take (t + 1) = (Mm.evs F G j m).take t ++ [v] := by rw [List.take_add_one, hv]; rfl
                        obtain ⟨ge, hge, gb, gl, gc, gm, gcell⟩ := EF.out.spot (by intro h0; rw [h0] at htn; exact absurd htn (Nat.not_lt_zero _))
                        have k0 := gcell _ _ (evC_get (Mm.evs F G j m) t v hv 0 (by decide))
                        have k1 := gcell _ _ (evC_get (Mm.evs F G j m) t v hv 1 (by decide))
                        have k2 := gcell _ _ (evC_get (Mm.evs F G j m) t v hv 2 (by decide))
                        have k3 := gcell _ _ (evC_get (Mm.evs F G j m) t v hv 3 (by decide))
                        have k4 := gcell _ _ (evC_get (Mm.evs F G j m) t v hv 4 (by decide))
                        have hkind := HKD.out v (List.mem_of_getElem? hv)
                        subst hge
                        have HTK : Hid ((Mm.evs F G j m).take (t + 1) = (Mm.evs F G j m).take t ++ [v]) := htk
                        clear htk
                        have htk := HTK
                        have hb2 : Mm.tal 2 ((Mm.evs F G j m).take t) ≤ 3 := Nat.le_trans (List.countP_le_length) (by rw [List.length_take]; omega)
                        have hb3 : Mm.tal 3 ((Mm.evs F G j m).take t) ≤ 3 := Nat.le_trans (List.countP_le_length) (by rw [List.length_take]; omega)
                        have hb1 : Mm.tal 1 ((Mm.evs F G j m).take t) ≤ 3 := Nat.le_trans (List.countP_le_length) (by rw [List.length_take]; omega)
                        have hg2 : Mm.gotAt F m ≤ 2 := by unfold Mm.gotAt; split <;> omega
                        have hl1 : Mm.losAt j m ≤ 1 := by unfold Mm.losAt; split <;> omega
                        obtain ⟨gx, HG'⟩ : ∃ gx, gx = Mm.gotAt F m + Mm.tal 2 ((Mm.evs F G j m).take t) := ⟨_, rfl⟩
                        obtain ⟨lx, HL'⟩ : ∃ lx, lx = Mm.losAt j m + Mm.tal 3 ((Mm.evs F G j m).take t) := ⟨_, rfl⟩
                        obtain ⟨sx, HS'⟩ : ∃ sx, sx = Mm.tal 1 ((Mm.evs F G j m).take t) := ⟨_, rfl⟩
                        have hgx : gx ≤ 9 := by omega
                        have hlx : lx ≤ 9 := by omega
                        have hsx : sx ≤ 9 := by omega
                        rw [← HG', ← HL', ← HS']
                        have HG : Hid (gx = Mm.gotAt F m + Mm.tal 2 ((Mm.evs F G j m).take t)) := HG'
                        have HL : Hid (lx = Mm.losAt j m + Mm.tal 3 ((Mm.evs F G j m).take t)) := HL'
                        have HS : Hid (sx = Mm.tal 1 ((Mm.evs F G j m).take t)) := HS'
                        clear HG' HL' HS' hb1 hb2 hb3 hg2 hl1 HTK hv gcell
                        rcases hkind with hk1 | hk2 | hk3 | hk6
                        · skip
                          have k0' : wr.cell? ⟨ge, t * 6, none⟩ = some (.int .i64 1) := by rw [hk1] at k0; exact k0
                          have hv2 : Hid (v.k = 1) := hk1
                          clear hk1 k0
                          go_wp2
                          replace LW : Hid (LiesF wr w0.heap.size (Mm.wonOf (Mm.wonAt F m) ((Mm.evs F G j m).take (t + 1)))) := by rw [htk.out, Mm.won_snoc, if_neg (by have := hv2.out; omega)]; exact LW
                          exact ⟨⟨t + 1, by omega, by rw [htk.out, Mm.tal_snoc, if_neg (by have := hv2.out; omega), Nat.add_zero, ← HG.out], by rw [htk.out, Mm.tal_snoc, if_neg (by have := hv2.out; omega), Nat.add_zero, ← HL.out], by rw [htk.out, Mm.tal_snoc, if_pos hv2.out, ← HS.out]; simp, by simp, TF, hCf, LA, LB, LW, EF⟩, by simp [intOf]; omega⟩
                        · skip
                          have k0' : wr.cell? ⟨ge, t * 6, none⟩ = some (.int .i64 2) := by rw [hk2] at k0; exact k0
                          have hv2 : Hid (v.k = 2) := hk2
                          clear hk2 k0
                          have lw0 := LW.out.c0
                          have lw1 := LW.out.c1
                          have lw2 := LW.out.c2
                          have lw3 := LW.out.c3
                          obtain ⟨_, _, _, _, lf0, lf1, lf2, lf3⟩ := four_cells LW.out
                          go_wp2
                          have TF2 : Hid (Thr At (fun g => w1.heap.size ≤ g ∧ g ≠ w0.heap.size) ((((wr.setCell ⟨w0.heap.size, 0, none⟩ (.bool v.f.1)).setCell ⟨w0.heap.size, 1, none⟩ (.int .u32 (v.f.2.1 : Int))).setCell ⟨w0.heap.size, 2, none⟩ (.bool v.f.2.2.1)).setCell ⟨w0.heap.size, 3, none⟩ (.string ⟨v.f.2.2.2.toArray⟩)) p x' q y' z c' (fun _ => False)) := TF.out.keep S (fun k _ hP => set4_other _ _ _ _ k hP.2)
                          have hC2 : Hid (Ctx W (fun g => w1.heap.size ≤ g ∧ g ≠ w0.heap.size) ((((wr.setCell ⟨w0.heap.size, 0, none⟩ (.bool v.f.1)).setCell ⟨w0.heap.size, 1, none⟩ (.int .u32 (v.f.2.1 : Int))).setCell ⟨w0.heap.size, 2, none⟩ (.bool v.f.2.2.1)).setCell ⟨w0.heap.size, 3, none⟩ (.string ⟨v.f.2.2.2.toArray⟩))) := hCf.out.set4 hwb _ _ _ _
                          have LA2 : Hid (LiesF ((((wr.setCell ⟨w0.heap.size, 0, none⟩ (.bool v.f.1)).setCell ⟨w0.heap.size, 1, none⟩ (.int .u32 (v.f.2.1 : Int))).setCell ⟨w0.heap.size, 2, none⟩ (.bool v.f.2.2.1)).setCell ⟨w0.heap.size, 3, none⟩ (.string ⟨v.f.2.2.2.toArray⟩)) W.heap.size a) := (set4_other _ _ _ _ _ hwa).trans LA.out
                          have LB2 : Hid (LiesF ((((wr.setCell ⟨w0.heap.size, 0, none⟩ (.bool v.f.1)).setCell ⟨w0.heap.size, 1, none⟩ (.int .u32 (v.f.2.1 : Int))).setCell ⟨w0.heap.size, 2, none⟩ (.bool v.f.2.2.1)).setCell ⟨w0.heap.size, 3, none⟩ (.string ⟨v.f.2.2.2.toArray⟩)) (W.heap.size + 1) b) := (set4_other _ _ _ _ _ hwa2).trans LB.out
                          have LW2 : Hid (LiesF ((((wr.setCell ⟨w0.heap.size, 0, none⟩ (.bool v.f.1)).setCell ⟨w0.heap.size, 1, none⟩ (.int .u32 (v.f.2.1 : Int))).setCell ⟨w0.heap.size, 2, none⟩ (.bool v.f.2.2.1)).setCell ⟨w0.heap.size, 3, none⟩ (.string ⟨v.f.2.2.2.toArray⟩)) w0.heap.size (Mm.wonOf (Mm.wonAt F m) ((Mm.evs F G j m).take (t + 1)))) := by rw [htk.out, Mm.won_snoc, if_pos hv2.out]; exact LW.out.setAll _ _ _ _
                          have EF2 : Hid (EvAt wc.heap.size ((((wr.setCell ⟨w0.heap.size, 0, none⟩ (.bool v.f.1)).setCell ⟨w0.heap.size, 1, none⟩ (.int .u32 (v.f.2.1 : Int))).setCell ⟨w0.heap.size, 2, none⟩ (.bool v.f.2.2.1)).setCell ⟨w0.heap.size, 3, none⟩ (.string ⟨v.f.2.2.2.toArray⟩)) (some ⟨ge, 0, none⟩) cf (Mm.evs F G j m)) := EF.out.on (fun g o h => set4_other _ _ _ _ g (by have := (EF.out.zero g o h).2.1; omega))
                          exact ⟨⟨t + 1, by omega, by rw [htk.out, Mm.tal_snoc, if_pos hv2.out, ← Nat.add_assoc, ← HG.out]; simp, by rw [htk.out, Mm.tal_snoc, if_neg (by have := hv2.out; omega), Nat.add_zero, ← HL.out], by rw [htk.out, Mm.tal_snoc, if_neg (by have := hv2.out; omega), Nat.add_zero, ← HS.out], by simp, TF2, hC2, LA2, LB2, LW2, EF2⟩, by simp [intOf]; omega⟩
                        · skip
                          have k0' : wr.cell? ⟨ge, t * 6, none⟩ = some (.int .i64 3) := by rw [hk3] at k0; exact k0
                          have hv2 : Hid (v.k = 3) := hk3
                          clear hk3 k0
                          go_wp2
                          replace LW : Hid (LiesF wr w0.heap.size (Mm.wonOf (Mm.wonAt F m) ((Mm.evs F G j m).take (t + 1)))) := by rw [htk.out, Mm.won_snoc, if_neg (by have := hv2.out; omega)]; exact LW
                          exact ⟨⟨t + 1, by omega, by rw [htk.out, Mm.tal_snoc, if_neg (by have := hv2.out; omega), Nat.add_zero, ← HG.out], by rw [htk.out, Mm.tal_snoc, if_pos hv2.out, ← Nat.add_assoc, ← HL.out]; simp, by rw [htk.out, Mm.tal_snoc, if_neg (by have := hv2.out; omega), Nat.add_zero, ← HS.out], by simp, TF, hCf, LA, LB, LW, EF⟩, by simp [intOf]; omega⟩
                        · skip
                          have k0' : wr.cell? ⟨ge, t * 6, none⟩ = some (.int .i64 6) := by rw [hk6] at k0; exact k0
                          have hv2 : Hid (v.k = 6) := hk6
                          clear hk6 k0
                          go_wp2
                          replace LW : Hid (LiesF wr w0.heap.size (Mm.wonOf (Mm.wonAt F m) ((Mm.evs F G j m).take (t + 1)))) := by rw [htk.out, Mm.won_snoc, if_neg (by have := hv2.out; omega)]; exact LW
                          exact ⟨⟨t + 1, by omega, by rw [htk.out, Mm.tal_snoc, if_neg (by have := hv2.out; omega), Nat.add_zero, ← HG.out], by rw [htk.out, Mm.tal_snoc, if_neg (by have := hv2.out; omega), Nat.add_zero, ← HL.out], by rw [htk.out, Mm.tal_snoc, if_neg (by have := hv2.out; omega), Nat.add_zero, ← HS.out], by simp, TF, hCf, LA, LB, LW, EF⟩, by simp [intOf]; omega⟩
                      · have htl : (Mm.evs F G j m).take t = (Mm.evs F G j m) := List.take_of_length_le (by omega)
                        have V1 : Hid ((Mm.gotAt F m + Mm.tal 2 ((Mm.evs F G j m).take t) : Nat) = Mm.gotAt F (m + 1)) := by show _ = _; rw [htl]; exact HCNT.out.1
                        have V2 : Hid ((Mm.losAt j m + Mm.tal 3 ((Mm.evs F G j m).take t) : Nat) = Mm.losAt j (m + 1)) := by show _ = _; rw [htl]; exact HCNT.out.2.1
                        have V3 : Hid ((Mm.tal 1 ((Mm.evs F G j m).take t) : Nat) = Mm.senAt F (m + 1)) := by show _ = _; rw [htl]; have h := HCNT.out.2.2.1; rw [hs0, Nat.zero_add] at h; exact h
                        replace LW : Hid (LiesF wr w0.heap.size (Mm.wonAt F (m + 1))) := by have h := LW.out; rw [htl, HCNT.out.2.2.2] at h; exact h
                        clear htl HCNT EF HKD
                        go_wp2
                        exact ⟨⟨m + 1, x', y', c', by omega, by rw [← V1.out], by rw [← V2.out], by rw [← V3.out], by simp, HI2, TF, hCf, LA, LB, LW⟩, by simp [intOf]; omega⟩
              · have hmL : m = (Mm.outB F).length := by omega
                have hs1 : Mm.senAt F m = 1 := if_pos (by omega)
                have hg2 : Mm.gotAt F m = 2 := if_pos (by omega)
                have hl1 : Mm.losAt j m = 1 := if_pos (by omega)
                have hw1 : Mm.wonAt F m = F := if_pos (by omega)
                have LF : Hid (LiesF wr w0.heap.size F) := by have h := LW.out; rw [hw1] at h; exact h
                have hA : Hid (Below W.heap.size W wr) := hC.out.below
                rw [hs1, hg2, hl1]
                clear hs1 hg2 hl1 hw1 LW TM HI HIs
                have a0 := LA.out.c0
                have a1 := LA.out.c1
                have a2 := LA.out.c2
                have a3 := LA.out.c3
                have b0 := LB.out.c0
                have b1 := LB.out.c1
                have b2 := LB.out.c2
                have b3 := LB.out.c3
                have f0 := LF.out.c0
                have f1 := LF.out.c1
                have f2 := LF.out.c2
                have f3 := LF.out.c3
                clear LA LB LF
                rcases HFab.out with rfl | rfl
                · clear HFab HNE
                  go_wp2
                  go_ret
                  exact ⟨rfl, hA.out⟩
                · clear HFab
                  by_cases e1 : F.1 = a.1
                  · by_cases e2 : F.2.1 = a.2.1
                    · have e3 : ¬ F.2.2.1 = a.2.2.1 := fun e3 => HNE.out ⟨e2.symm, e1.symm, e3.symm⟩
                      have e2' : (F.2.1 : Int) = (a.2.1 : Int) := by omega
                      clear HNE e2
                      go_wp2
                      go_ret
                      exact ⟨rfl, hA.out⟩
                    · have e2' : ¬ (F.2.1 : Int) = (a.2.1 : Int) := by omega
                      clear HNE e2
                      go_wp2
                      go_ret
                      exact ⟨rfl, hA.out⟩
                  · clear HNE
                    go_wp2
                    go_ret
                    exact ⟨rfl, hA.out⟩
theorem walk0 (S : MacSpec At) (HK : AckSpec) (x0 : Bool) (n0 : Int) (r0 : Bool) (d0 : ByteArray) (w0 : (Lit.int .u32 n0).wf = true) (u0 : d0.size ≤ maxLen) (x1 : Bool) (n1 : Int) (r1 : Bool) (d1 : ByteArray) (w1 : (Lit.int .u32 n1).wf = true) (u1 : d1.size ≤ maxLen) (W : World) (hT : Tab W) :
    Calls Tryd.prog 4 #[.agg #[.bool x0, .int .u32 n0, .bool r0, .string d0], .agg #[.bool x1, .int .u32 n1, .bool r1, .string d1]] W fun e w' => e = .returned (.bool true) ∧ Below W.heap.size W w' := by
  obtain ⟨m0, rfl, h0⟩ := u32_nat w0
  obtain ⟨m1, rfl, h1⟩ := u32_nat w1
  exact walkF S HK (x0, m0, r0, d0.data.toList) (x1, m1, r1, d1.data.toList) h0 h1 W hT
end Go.Proofs.YthappkhiiopfgaaDoor.macLoses
