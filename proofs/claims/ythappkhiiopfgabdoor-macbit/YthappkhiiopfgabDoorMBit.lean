/- MacBit: a sender that sees another bit than its own, but within its arbitration, fails at once; no condition. -/
import Derived.Test.YthappkhiiopfgabDoorMh
import Derived.ProofKit
import Derived.OpenShut
namespace Go.Proofs.YthappkhiiopfgabDoor.macBit
open Go.ChangeShapes Go.WideShapes Go.ChangeAt Go.RowKit
set_option linter.unusedVariables false
variable {At : World → Nat → (Nat → Prop) → Mm.St → Prop}
def TurnSpec : Prop := ∀ (bs : List Bool) (k : Nat) (w : World), bs.length ≤ 1000 → Calls Tryd.prog 16 #[.string ⟨(Bm.row bs).toArray⟩, .int .i64 (k : Int)] w fun e w' => e = .returned (.string ⟨(Bm.row (Bm.turn bs (k : Int))).toArray⟩) ∧ Below w.heap.size w w'
theorem turn_get (l : List Bool) (k : Nat) (hk : k < l.length) : (Bm.turn l (k : Int)).getD k true = !(l.getD k true) ∧ (Bm.turn l (k : Int)).length = l.length := by
  have e : l = l.take k ++ l[k] :: l.drop (k + 1) := by rw [← List.drop_eq_getElem_cons hk, List.take_append_drop]
  have hl : (l.take k).length = k := by rw [List.length_take]; omega
  have h := Cm.turn_app (l.take k) l[k] (l.drop (k + 1))
  rw [hl, ← e] at h
  rw [h]
  refine ⟨?_, ?_⟩
  · rw [List.getD_eq_getElem?_getD, List.getElem?_append_right (by omega), hl, Nat.sub_self, List.getD_eq_getElem?_getD, List.getElem?_eq_getElem hk]
    rfl
  · rw [List.length_append, List.length_cons, hl, List.length_drop]
    omega
theorem st_slack (l : List Bool) : ∀ r : Nat × Bool, 1 ≤ r.1 → r.1 ≤ 4 → 4 * (Sm.stB r [] l).length + 1 ≤ 5 * l.length + r.1 := by
  induction l with
  | nil => intro r h1 h2; show 0 + 1 ≤ 0 + r.1; omega
  | cons c t ih =>
    intro r h1 h2
    have hle := Sm.step_le r c
    by_cases h5 : (Sm.step r c).1 = 5
    · rw [Sm.stB_cons5 r c t h5]
      have h := ih (1, !c) (Nat.le_refl 1) (show 1 ≤ 4 by decide)
      simp only [List.length_cons] at h ⊢
      omega
    · rw [Sm.stB_cons r c t h5]
      have hs : 1 ≤ (Sm.step r c).1 := by unfold Sm.step; split <;> simp
      have h := ih (Sm.step r c) hs (by omega)
      simp only [List.length_cons] at h ⊢
      omega
theorem head_slack : ∀ k : Fin 2048, 4 * (Sm.stB (0, false) [] (false :: Bm.ofB k.val 11 ++ [true])).length + (Sm.stS (0, false) (false :: Bm.ofB k.val 11 ++ [true])).1 ≤ 64 ∧ 1 ≤ (Sm.stS (0, false) (false :: Bm.ofB k.val 11 ++ [true])).1 ∧ (Sm.stS (0, false) (false :: Bm.ofB k.val 11 ++ [true])).1 ≤ 4 := by decide +kernel
theorem arb_forty {f : Cm.Fr} (hf : Mm.isFr f = true) : Mm.arbL f ≤ 40 := by
  unfold Mm.arbL
  cases hx : f.1
  · have h1 := Sm.stuff_len_le (Fm.arb0 false f.2.1 f.2.2.1)
    have h2 : (Fm.arb0 false f.2.1 f.2.2.1).length ≤ 14 := by simp [Fm.arb0, Bm.length_ofB]
    unfold Sm.most at h1
    split at h1 <;> omega
  · have hn : f.2.1 / 262144 < 2048 := by
      unfold Mm.isFr Fm.isF Fm.top at hf
      rw [hx] at hf
      simp at hf
      omega
    obtain ⟨h1, h2, h3⟩ := head_slack ⟨f.2.1 / 262144, hn⟩
    have e : Fm.arb0 true f.2.1 f.2.2.1 = (false :: Bm.ofB (f.2.1 / 262144) 11 ++ [true]) ++ (true :: (Bm.ofB f.2.1 18 ++ [f.2.2.1])) := by simp [Fm.arb0]
    have h4 := st_slack (true :: (Bm.ofB f.2.1 18 ++ [f.2.2.1])) _ h2 h3
    have hl : (true :: (Bm.ofB f.2.1 18 ++ [f.2.2.1])).length = 20 := by simp [Bm.length_ofB]
    rw [e]
    unfold Sm.stuff
    rw [Sm.stB_append, List.length_append]
    rw [hl] at h4
    dsimp only at h1 h4
    omega
def fl8 (f : Cm.Fr) (b : List Bool) : Mm.St := ⟨.flag, 6, false, false, false, false, f, b, 8, 0⟩
theorem fail_at {f : Cm.Fr} (hf : Mm.isFr f = true) (k : Nat) (hk : 40 ≤ k) (hl : k < (Mm.outB f).length) (h9 : k ≠ (Mm.outB f).length - 9) : Mm.sample (Mm.tst f [] false 0 0 k) (!((Mm.ackB f).getD k true)) = (fl8 f ((Mm.ackB f).take k), [⟨4, f, 70⟩]) := by
  have ha := arb_forty hf
  have hg := Mm.ack_get f k hl
  rw [if_neg h9] at hg
  unfold Mm.tst
  rw [if_neg (by omega), hg, Mm.snd_fail (f := f) hf (m := Mm.sdS f k 0 0) rfl rfl rfl rfl hl h9 (by omega) (by cases (Mm.outB f).getD k true <;> decide)]
  rfl
set_option maxRecDepth 100000 in
set_option maxHeartbeats 4000000 in
theorem walkF (S : MacSpec At) (HK : AckSpec) (HTu : TurnSpec) (f : Cm.Fr) (d : ByteArray) (hd : d = ⟨f.2.2.2.toArray⟩) (hn : f.2.1 < 4294967296) (a : Nat) (h256 : a < 256) (W : World) (hT : Tab W) :
    Calls Tryd.prog 4 #[.agg #[.bool f.1, .int .u32 (f.2.1 : Int), .bool f.2.2.1, .string d], .int .u8 (a : Int)] W fun e w' => e = .returned (.bool true) ∧ Below W.heap.size W w' := by
  have hdl : d.size = f.2.2.2.length := by rw [hd]; simp [ByteArray.size]
  have LF : Hid (Lies (W.alloc (.cells #[.bool f.1, .int .u32 (f.2.1 : Int), .bool f.2.2.1, .string d] 24)) W.heap.size f.1 f.2.1 f.2.2.1 d) := Lies.new W _ _ _ _
  have hk := known7_any S HK _ (hT.alloc (.cells #[.bool f.1, .int .u32 (f.2.1 : Int), .bool f.2.2.1, .string d] 24))
  have HT : Hid (Tab W) := hT
  have HAk : Hid (∀ w, Tab w → Calls Tryd.prog 14 #[.agg #[.bool f.1, .int .u32 (f.2.1 : Int), .bool f.2.2.1, .string d]] w fun e w' => e = .returned (.string ⟨(Bm.row (Cm.ack f.1 f.2.1 f.2.2.1 f.2.2.2)).toArray⟩) ∧ Below w.heap.size w w') := fun w hT => by rw [hd]; exact HK f w hT hn
  have HAs : Hid (∀ (P : Nat → Prop) (w : World) (p : Nat) (m m' : Mm.St) (k : Nat), Mm.ask m f = (k, m') → f.2.2.2.length ≤ 1000 → OwnM At P w p m → Ctx W P w → Calls Tryd.prog 11 #[bptr p, .agg #[.bool f.1, .int .u32 (f.2.1 : Int), .bool f.2.2.1, .string d]] w fun e w' => e = .returned (.int .i64 (k : Int)) ∧ OwnM At P w' p m' ∧ Ctx W P w' ∧ Kept P w w') := fun P w p m m' k hm h2 h hC => by rw [hd]; exact am_ask S f hm hn h2 h hC
  have HD : Hid (d = ⟨f.2.2.2.toArray⟩) := hd
  have HTu' : Hid (TurnSpec) := HTu
  clear hT HK hd hn HTu
  go_enter Tryd.func4, Tryd.ntmps4
  go_wp2_with fail
  refine hk.mono ?_
  rintro e w1 ⟨rfl, hb1⟩
  replace LF : Hid (Lies w1 _ _ _ _ _) := LF.out.on hb1
  have hA : Hid (Below W.heap.size W w1) := below_joinK ((Below.refl _ _).alloc (Nat.le_refl _) _) hb1 (by simp)
  clear hk hb1
  have LF0 := LF.out.c0
  have LF1 := LF.out.c1
  have LF2 := LF.out.c2
  have LF3 := LF.out.c3
  go_wp2_with fail
  refine (HAk.out _ (HT.out.below hA.out)).mono ?_
  rintro e w2 ⟨rfl, hb2⟩
  replace LF : Hid (Lies w2 _ _ _ _ _) := LF.out.on hb2
  replace hA : Hid (Below W.heap.size W w2) := hA.out.trans (hb2.mono hA.out.size)
  clear hb2 HAk LF0 LF1 LF2 LF3
  have LF0 := LF.out.c0
  have LF1 := LF.out.c1
  have LF2 := LF.out.c2
  have LF3 := LF.out.c3
  by_cases hlong : 20 < d.size
  · clear HAs HTu'
    go_wp2
    go_ret
    exact ⟨rfl, hA.out⟩
  · cases hf : Mm.isFr f
    · rw [row_none f hf, show (ByteArray.mk (Bm.row []).toArray) = ByteArray.mk #[] from rfl]
      clear LF LF0 LF1 LF2 HAs HTu'
      go_wp2
      go_ret
      exact ⟨rfl, hA.out⟩
    · rw [ack_row f hf]
      have hL := row_len f
      obtain ⟨hL1, hL2⟩ := Mm.out_len hf
      obtain ⟨K, hK⟩ : ∃ K : Nat, (a : Int).tmod ((Mm.outB f).length : Int) = (K : Int) := ⟨a % (Mm.outB f).length, by rw [Int.tmod_eq_emod_of_nonneg (by omega)]; simp⟩
      have hKL : K < (Mm.outB f).length := by
        rw [Int.tmod_eq_emod_of_nonneg (by omega)] at hK
        have h := Int.emod_lt_of_pos (a : Int) (show (0 : Int) < ((Mm.outB f).length : Int) by omega)
        omega
      have HIx : Hid (∀ (k : Nat) (W : World), k < (Mm.outB f).length → (Instr.index 9 (.string ⟨(Bm.row (Mm.ackB f)).toArray⟩) (.int .i64 (k : Int))).run Tryd.prog W = .ok (.int .u8 ((Bm.sign ((Mm.ackB f).getD k true)).toNat : Int)) W) := fun k W hk => idx_row _ k (by rw [Mm.ack_len]; exact hk) W
      have HB : Hid (∀ k, k + 1 < (Mm.outB f).length → ∀ c, c = Bm.sign ((Mm.ackB f).getD k true) → Mm.sample (Mm.tst f [] false 0 0 k) (c != 48) = (Mm.tst f [] false 0 0 (k + 1), if k = 0 then [⟨6, Cm.noF, 0⟩] else [])) := fun k hk c hc => by rw [hc, bit_byte]; exact Mm.tst_bit hf _ _ _ _ k hk
      have HTr : Hid (∀ w, Calls Tryd.prog 16 #[.string ⟨(Bm.row (Mm.ackB f)).toArray⟩, .int .i64 (K : Int)] w fun e w' => e = .returned (.string ⟨(Bm.row (Bm.turn (Mm.ackB f) (K : Int))).toArray⟩) ∧ Below w.heap.size w w') := fun w => HTu'.out _ K w (by rw [Mm.ack_len]; omega)
      have HIt : Hid (∀ W : World, (Instr.index 9 (.string ⟨(Bm.row (Bm.turn (Mm.ackB f) (K : Int))).toArray⟩) (.int .i64 (K : Int))).run Tryd.prog W = .ok (.int .u8 ((Bm.sign (!((Mm.ackB f).getD K true))).toNat : Int)) W) := fun W => by
        obtain ⟨h1, h2⟩ := turn_get (Mm.ackB f) K (by rw [Mm.ack_len]; exact hKL)
        rw [idx_row _ K (by rw [h2, Mm.ack_len]; exact hKL) W, h1]
      have HF : Hid (40 ≤ K → K ≠ (Mm.outB f).length - 9 → Mm.sample (Mm.tst f [] false 0 0 K) (Bm.sign (!((Mm.ackB f).getD K true)) != 48) = (fl8 f ((Mm.ackB f).take K), [⟨4, f, 70⟩])) := fun h1 h2 => by
        rw [bit_byte]; exact fail_at hf K h1 hKL h2
      have hne : (ByteArray.mk (Bm.row (Mm.ackB f)).toArray).toList.isEmpty = false := txt_some (by rw [hL]; omega)
      have hds : decide ((20 : Int) < (d.size : Int)) = false := decide_eq_false (by omega)
      have ha0 : (0 : Int) ≤ (a : Int) := by omega
      have ha1 : (a : Int) < 256 := by omega
      have hC : Hid (Ctx W (fun g => w2.heap.size ≤ g) w2) := Ctx.from HT.out hA.out
      have LFP : Hid (¬ (fun g => w2.heap.size ≤ g) W.heap.size) := Nat.not_le.2 LF.out.lt
      have HAsk : Hid (Mm.ask (Mm.idS false Cm.noF [] false 0 0) f = (0, Mm.tst f [] false 0 0 0)) := by
        show _ = _
        unfold Mm.ask
        rw [if_neg (by intro k; cases k), if_neg (by rw [hf]; decide)]
        rfl
      clear HT HTu' hf
      generalize ByteArray.mk (Bm.row (Bm.turn (Mm.ackB f) (K : Int))).toArray = TT at *
      generalize ByteArray.mk (Bm.row (Mm.ackB f)).toArray = T at *
      generalize Bm.sign (!((Mm.ackB f).getD K true)) = cc at *
      generalize (Mm.outB f).length = L at *
      by_cases k40 : K < 40
      · have g40 : decide ((K : Int) < 40) = true := decide_eq_true (by omega)
        clear HAs HIx HB HTr HIt HF HAsk LF LF0 LF1 LF2
        go_wp2
        go_ret
        exact ⟨rfl, hA.out⟩
      · have g40 : decide ((K : Int) < 40) = false := decide_eq_false (by omega)
        by_cases k9 : K = L - 9
        · have g9 : ((K : Int) == (L : Int) - 9) = true := by rw [beq_iff_eq]; omega
          clear HAs HIx HB HTr HIt HF HAsk LF LF0 LF1 LF2 k9
          go_wp2
          go_ret
          exact ⟨rfl, hA.out⟩
        · have g9 : ((K : Int) == (L : Int) - 9) = false := by rw [beq_eq_false_iff_ne]; omega
          have EQ := HF.out (by omega) k9
          clear k9 k40 HF
          go_wp2_with fail
          refine (idle_any S hC.out).mono ?_
          rintro e w3 ⟨p, rfl, O', C', hk'⟩
          replace hC : Hid (Ctx W _ w3) := C'
          have OM : Hid (OwnM At _ w3 _ _) := O'
          replace LF : Hid (Lies w3 _ _ _ _ _) := LF.out.kept hk' LFP.out
          clear O' C' hk' LF0 LF1 LF2 LF3 hA
          have LF0 := LF.out.c0
          have LF1 := LF.out.c1
          have LF2 := LF.out.c2
          have LF3 := LF.out.c3
          have HA := fun w hO hC => HAs.out (fun g => w2.heap.size ≤ g) w p _ _ 0 HAsk.out (by omega) hO hC
          go_wp2_with fail
          refine (HA _ OM.out hC.out).mono ?_
          rintro e w4 ⟨rfl, O', C', hk'⟩
          replace hC : Hid (Ctx W _ w4) := C'
          replace OM : Hid (OwnM At _ w4 _ _) := O'
          replace LF : Hid (Lies w4 _ _ _ _ _) := LF.out.kept hk' LFP.out
          clear O' C' hk' LF0 LF1 LF2 LF3 HA HAs HAsk
          go_wp2_with fail
          clear hK
          go_loopw [8] (fun i wr => ∃ k : Nat, k ≤ K ∧ i = .int .i64 k ∧ Hid (OwnM At (fun g => w2.heap.size ≤ g) wr p (Mm.tst f [] false 0 0 k)) ∧ Hid (Ctx W (fun g => w2.heap.size ≤ g) wr) ∧ Hid (Lies wr W.heap.size f.1 f.2.1 f.2.2.1 d)) (fun i _ => K - (intOf i).toNat)
          case atStart => exact ⟨0, Nat.zero_le _, rfl, OM, hC, LF⟩
          case round =>
            clear OM hC LF
            obtain ⟨k, hk, rfl, OM, hC, LF⟩ := hrel
            by_cases hlt : k < K
            · have hix := fun W => HIx.out k W (by omega)
              have EQ1 := HB.out k (by omega) _ rfl
              clear HIx HB HTr HIt EQ
              generalize Bm.sign ((Mm.ackB f).getD k true) = c at *
              go_wp2_with fail
              refine (am_sample S c EQ1 OM.out hC.out).mono ?_
              rintro e w5 ⟨sl, cp, rfl, _, O', C', hk'⟩
              replace hC : Hid (Ctx W _ w5) := C'
              replace OM : Hid (OwnM At _ w5 _ _) := O'
              replace LF : Hid (Lies w5 _ _ _ _ _) := LF.out.kept hk' LFP.out
              clear O' C' hk' EQ1 hix
              generalize (if k = 0 then [(⟨6, Cm.noF, 0⟩ : Mm.Ev)] else []).length = ln
              go_wp2
              go_roundw
              case rel => exact ⟨k + 1, by omega, by go_num, OM, hC, LF⟩
              case measure => simp [intOf]; omega
            · obtain rfl : k = K := by omega
              have hit := HIt.out
              go_wp2_with fail
              refine (HTr.out _).mono ?_
              rintro e w5 ⟨rfl, hb5⟩
              replace hC : Hid (Ctx W _ w5) := hC.out.more hb5
              replace OM : Hid (OwnM At _ w5 _ _) := OM.out.on S hb5
              replace LF : Hid (Lies w5 _ _ _ _ _) := LF.out.on hb5
              clear hb5 HTr HIx HB HIt
              go_wp2_with fail
              refine (am_one S cc EQ OM.out hC.out).mono ?_
              rintro e w' ⟨eg, ecap, rfl, O', C', hk', ec1, ec2, eL, e0, e1, e2, e3, e4, e5⟩
              replace hC : Hid (Ctx W _ w') := C'
              replace OM : Hid (OwnM At _ w' _ _) := O'
              replace LF : Hid (Lies w' _ _ _ _ _) := LF.out.kept hk' LFP.out
              try clear LF0 LF1 LF2 LF3
              have LF0 := LF.out.c0
              have LF1 := LF.out.c1
              have LF2 := LF.out.c2
              have LF3 := LF.out.c3
              clear O' C' hk'
              have HE : Hid (∀ w'' : World, Below w'.heap.size w' w'' → w''.cell? ⟨eg, 0, none⟩ = some (.int .i64 4) ∧ w''.cell? ⟨eg, 1, none⟩ = some (.bool f.1) ∧ w''.cell? ⟨eg, 2, none⟩ = some (.int .u32 (f.2.1 : Int)) ∧ w''.cell? ⟨eg, 3, none⟩ = some (.bool f.2.2.1) ∧ w''.cell? ⟨eg, 4, none⟩ = some (.string d) ∧ w''.cell? ⟨eg, 5, none⟩ = some (.int .i64 70)) := fun w'' hb =>
                ⟨(hb.cell (p := ⟨eg, 0, none⟩) eL).trans e0, (hb.cell (p := ⟨eg, 1, none⟩) eL).trans e1, (hb.cell (p := ⟨eg, 2, none⟩) eL).trans e2, (hb.cell (p := ⟨eg, 3, none⟩) eL).trans e3, (hb.cell (p := ⟨eg, 4, none⟩) eL).trans (by rw [HD.out]; exact e4), (hb.cell (p := ⟨eg, 5, none⟩) eL).trans e5⟩
              clear e0 e1 e2 e3 e4 e5 EQ hit LF0 LF1 LF2 LF3
              have hfd := cnt_field0
              go_wp2_with fail
              refine Lw.wp_region_quiet_below (by kernel_rfl) (by kernel_rfl) ?_
              repeat (first
                | go_big_quiet_skip
                | (go_big_quiet_want; go_big_quiet_op; go_big_quiet_on)
                | (go_big_quiet_want; go_big_quiet_op; apply Exists.intro; refine ⟨fun _ hb' => ?_, ?_⟩; (first
                  | exact Lw.val_rfl _
                  | (go_at_call 18; exact Lw.calls_below hb' (am_busyB S (b := false) rfl (OM.out.on S hb') (hC.out.more hb')))
                  | (go_at_call 17; exact Lw.calls_below hb' (am_countsB S (a := 8) (b := 0) rfl (OM.out.on S hb') (hC.out.more hb')))
                  | (simp [go_sem, (HE.out _ hb').1]; rfl)
                  | (simp [go_sem, (HE.out _ hb').2.2.2.2.2]; rfl)
                  | (simp [go_sem, (HE.out _ hb').2.1, (HE.out _ hb').2.2.1, (HE.out _ hb').2.2.2.1, (HE.out _ hb').2.2.2.2.1]; rfl)
                  | (simp [go_sem, (LF.out.on hb').c0, (LF.out.on hb').c1, (LF.out.on hb').c2, (LF.out.on hb').c3]; rfl)
                  | (simp [go_sem, cnt_field0]; rfl)); go_big_quiet_on))
              refine wpQuiet_nil ?_
              intro w9 hb9
              have hA9 := (hC.out.more hb9).below
              go_wp2
              go_ret
              exact ⟨rfl, hA9⟩
theorem walkA (S : MacSpec At) (HK : AckSpec) (HTu : TurnSpec) (x : Bool) (n0 : Int) (r : Bool) (d : ByteArray) (w0 : (Lit.int .u32 n0).wf = true) (a1 : Int) (w1 : (Lit.int .u8 a1).wf = true) (W : World) (hT : Tab W) :
    Calls Tryd.prog 4 #[.agg #[.bool x, .int .u32 n0, .bool r, .string d], .int .u8 a1] W fun e w' => e = .returned (.bool true) ∧ Below W.heap.size W w' := by
  obtain ⟨n, rfl, hn⟩ := u32_nat w0
  obtain ⟨h1, h2⟩ := bounds_u8 w1
  obtain ⟨m, rfl⟩ := Int.eq_ofNat_of_zero_le h1
  exact walkF S HK HTu (x, n, r, d.data.toList) d rfl hn m (by omega) W hT
end Go.Proofs.YthappkhiiopfgabDoor.macBit
