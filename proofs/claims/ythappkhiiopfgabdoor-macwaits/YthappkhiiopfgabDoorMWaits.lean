/- MacWaits: what is asked for while another one's frame is on the wire goes out behind it; no condition. -/
import Derived.Test.YthappkhiiopfgabDoorMh
import Derived.ProofKit
import Derived.OpenShut
namespace Go.Proofs.YthappkhiiopfgabDoor.macWaits
open Go.ChangeShapes Go.WideShapes Go.ChangeAt Go.RowKit
set_option linter.unusedVariables false
variable {At : World → Nat → (Nat → Prop) → Mm.St → Prop}
/-- Listening to f; g waits from bit K on. -/
def hw (f g : Cm.Fr) (K i : Nat) : Mm.St := if i ≤ K then Mm.hs false Cm.noF f i else Mm.hs true g f i
theorem hs_ask {f g : Cm.Fr} (hg : Mm.isFr g = true) (i : Nat) (h0 : 0 < i) (hi : i < (Mm.outB f).length) : Mm.ask (Mm.hs false Cm.noF f i) g = (0, Mm.hs true g f i) := by
  unfold Mm.hs
  rw [if_neg (by omega), if_pos hi, if_neg (by omega), if_pos hi]
  unfold Mm.ask
  rw [if_neg (by intro k; cases k), if_neg (by rw [hg]; decide)]
  rfl
theorem hw_bit {f g : Cm.Fr} (hf : Mm.isFr f = true) (K i : Nat) (hK : 1 ≤ K) (hi : i < (Mm.outB f).length) (hne : i ≠ K) : ∃ l, Mm.sample (hw f g K i) ((Mm.ackB f).getD i true) = (hw f g K (i + 1), l) := by
  unfold hw
  by_cases h : i ≤ K
  · rw [if_pos h, if_pos (by omega)]
    by_cases h0 : i = 0
    · subst h0; exact ⟨_, Mm.hs_zero _ hf⟩
    · by_cases hl : i + 1 < (Mm.outB f).length
      · exact ⟨_, Mm.hs_bit _ _ hf i (by omega) hl⟩
      · exact ⟨_, Mm.hs_last _ _ hf i (by omega) _⟩
  · rw [if_neg h, if_neg (by omega)]
    by_cases hl : i + 1 < (Mm.outB f).length
    · exact ⟨_, Mm.hs_bit _ _ hf i (by omega) hl⟩
    · exact ⟨_, Mm.hs_last _ _ hf i (by omega) _⟩
theorem hw_at {f g : Cm.Fr} (hf : Mm.isFr f = true) (K : Nat) (hK : 1 ≤ K) (hi : K < (Mm.outB f).length) : ∃ l, Mm.sample (Mm.hs true g f K) ((Mm.ackB f).getD K true) = (hw f g K (K + 1), l) := by
  unfold hw
  rw [if_neg (by omega)]
  by_cases hl : K + 1 < (Mm.outB f).length
  · exact ⟨_, Mm.hs_bit _ _ hf K (by omega) hl⟩
  · exact ⟨_, Mm.hs_last _ _ hf K (by omega) _⟩
/-- Pausing, then idle, g waits. -/
def pw (f g : Cm.Fr) (i : Nat) : Mm.St := if i < 3 then Mm.pz (3 - i) true g ((Mm.ackB f).take ((Mm.outB f).length - 1)) true 0 0 else Mm.idS true g ((Mm.ackB f).take ((Mm.outB f).length - 1)) true 0 0
theorem hw_end {f g : Cm.Fr} (hf : Mm.isFr f = true) (K : Nat) (hi : K < (Mm.outB f).length) : hw f g K (Mm.outB f).length = pw f g 0 := by
  unfold hw
  rw [if_neg (by omega), Mm.hs_end _ _ hf]
  rfl
theorem pw_one (f g : Cm.Fr) (i : Nat) (hi : i < 3) : Mm.sample (pw f g i) true = (pw f g (i + 1), []) := by
  obtain rfl | rfl | rfl : i = 0 ∨ i = 1 ∨ i = 2 := by omega
  all_goals rfl
theorem pw_drive (f g : Cm.Fr) (i : Nat) (hi : i < 3) : (if Mm.drive (pw f g i) then (49 : Int) else 48) = 49 := by
  obtain rfl | rfl | rfl : i = 0 ∨ i = 1 ∨ i = 2 := by omega
  all_goals rfl
theorem sign_dv (b : Bool) : (if b then (49 : Int) else 48) = ((Bm.sign b).toNat : Int) := by cases b <;> rfl
theorem nine_ack {g : Cm.Fr} (hg : Mm.isFr g = true) (i : Nat) (hi : i < (Mm.outB g).length) : ((Bm.sign ((Mm.outB g).getD i true)).toNat : Int) = ((Bm.sign ((Mm.ackB g).getD i true)).toNat : Int) ∨ i = (Mm.outB g).length - 9 := by
  by_cases h : i = (Mm.outB g).length - 9
  · exact Or.inr h
  · left
    have h2 := Mm.ack_get g i hi
    rw [if_neg h] at h2
    rw [h2]
set_option maxRecDepth 100000 in
set_option maxHeartbeats 4000000 in
theorem walkF (S : MacSpec At) (HK : AckSpec) (f g : Cm.Fr) (d q : ByteArray) (hd : d = ⟨f.2.2.2.toArray⟩) (hq : q = ⟨g.2.2.2.toArray⟩) (hn : f.2.1 < 4294967296) (hm : g.2.1 < 4294967296) (a : Nat) (h256 : a < 256) (W : World) (hT : Tab W) :
    Calls Tryd.prog 5 #[.agg #[.bool f.1, .int .u32 (f.2.1 : Int), .bool f.2.2.1, .string d], .agg #[.bool g.1, .int .u32 (g.2.1 : Int), .bool g.2.2.1, .string q], .int .u8 (a : Int)] W fun e w' => e = .returned (.bool true) ∧ Below W.heap.size W w' := by
  have hql : q.size = g.2.2.2.length := by rw [hq]; simp [ByteArray.size]
  have LF : Hid (Lies ((W.alloc (.cells #[.bool f.1, .int .u32 (f.2.1 : Int), .bool f.2.2.1, .string d] 24)).alloc (.cells #[.bool g.1, .int .u32 (g.2.1 : Int), .bool g.2.2.1, .string q] 24)) W.heap.size f.1 f.2.1 f.2.2.1 d) := (Lies.new W _ _ _ _).alloc _
  have LG : Hid (Lies ((W.alloc (.cells #[.bool f.1, .int .u32 (f.2.1 : Int), .bool f.2.2.1, .string d] 24)).alloc (.cells #[.bool g.1, .int .u32 (g.2.1 : Int), .bool g.2.2.1, .string q] 24)) (W.heap.size + 1) g.1 g.2.1 g.2.2.1 q) := Lies.new1 W _ _ _ _ _
  have hk := known7_any S HK _ ((hT.alloc (.cells #[.bool f.1, .int .u32 (f.2.1 : Int), .bool f.2.2.1, .string d] 24)).alloc (.cells #[.bool g.1, .int .u32 (g.2.1 : Int), .bool g.2.2.1, .string q] 24))
  have HT : Hid (Tab W) := hT
  have HAf : Hid (∀ w, Tab w → Calls Tryd.prog 14 #[.agg #[.bool f.1, .int .u32 (f.2.1 : Int), .bool f.2.2.1, .string d]] w fun e w' => e = .returned (.string ⟨(Bm.row (Cm.ack f.1 f.2.1 f.2.2.1 f.2.2.2)).toArray⟩) ∧ Below w.heap.size w w') := fun w hT => by rw [hd]; exact HK f w hT hn
  have HAg : Hid (∀ w, Tab w → Calls Tryd.prog 14 #[.agg #[.bool g.1, .int .u32 (g.2.1 : Int), .bool g.2.2.1, .string q]] w fun e w' => e = .returned (.string ⟨(Bm.row (Cm.ack g.1 g.2.1 g.2.2.1 g.2.2.2)).toArray⟩) ∧ Below w.heap.size w w') := fun w hT => by rw [hq]; exact HK g w hT hm
  have HAs : Hid (∀ (P : Nat → Prop) (w : World) (p : Nat) (m m' : Mm.St) (k : Nat), Mm.ask m g = (k, m') → g.2.2.2.length ≤ 1000 → OwnM At P w p m → Ctx W P w → Calls Tryd.prog 11 #[bptr p, .agg #[.bool g.1, .int .u32 (g.2.1 : Int), .bool g.2.2.1, .string q]] w fun e w' => e = .returned (.int .i64 (k : Int)) ∧ OwnM At P w' p m' ∧ Ctx W P w' ∧ Kept P w w') := fun P w p m m' k hm' h2 h hC => by rw [hq]; exact am_ask S g hm' hm h2 h hC
  have HQ : Hid (q = ⟨g.2.2.2.toArray⟩) := hq
  clear hT HK hd hq hn hm
  go_enter Tryd.func5, Tryd.ntmps5
  go_wp2_with fail
  refine hk.mono ?_
  rintro e w1 ⟨rfl, hb1⟩
  replace LF : Hid (Lies w1 _ _ _ _ _) := LF.out.on hb1
  replace LG : Hid (Lies w1 _ _ _ _ _) := LG.out.on hb1
  have hA : Hid (Below W.heap.size W w1) := below_joinK (((Below.refl _ _).alloc (Nat.le_refl _) _).alloc (by simp) _) hb1 (by simp; omega)
  clear hk hb1
  go_wp2_with fail
  refine Lw.wp_region_quiet_below (by kernel_rfl) (by kernel_rfl) ?_
  repeat (first
    | go_big_quiet_skip
    | (go_big_quiet_want; go_big_quiet_op; go_big_quiet_on)
    | (go_big_quiet_want; go_big_quiet_op; apply Exists.intro; refine ⟨fun _ hb' => ?_, ?_⟩; (first
      | exact Lw.val_rfl _
      | (go_at_call_of 14 (Value.agg #[.bool f.1, .int .u32 (f.2.1 : Int), .bool f.2.2.1, .string d]); exact Lw.calls_below hb' (HAf.out _ (HT.out.below (below_joinK hA.out hb' hA.out.size))))
      | (go_at_call 14; exact Lw.calls_below hb' (HAg.out _ (HT.out.below (below_joinK hA.out hb' hA.out.size))))
      | (simp [go_sem, (LF.out.on hb').c0, (LF.out.on hb').c1, (LF.out.on hb').c2, (LF.out.on hb').c3]; rfl)
      | (simp [go_sem, (LG.out.on hb').c0, (LG.out.on hb').c1, (LG.out.on hb').c2, (LG.out.on hb').c3]; rfl)); go_big_quiet_on))
  refine wpQuiet_nil ?_
  intro w2 hb2
  replace LF : Hid (Lies w2 _ _ _ _ _) := LF.out.on hb2
  replace LG : Hid (Lies w2 _ _ _ _ _) := LG.out.on hb2
  replace hA : Hid (Below W.heap.size W w2) := below_joinK hA.out hb2 hA.out.size
  clear hb2 HAf HAg
  have LF3 := LF.out.c3
  have LG3 := LG.out.c3
  by_cases l1 : 20 < d.size
  · have g1 : decide ((20 : Int) < (d.size : Int)) = true := decide_eq_true (by omega)
    clear HAs
    go_wp2
    go_ret
    exact ⟨rfl, hA.out⟩
  have g1 : decide ((20 : Int) < (d.size : Int)) = false := decide_eq_false (by omega)
  by_cases l2 : 20 < q.size
  · have g2 : decide ((20 : Int) < (q.size : Int)) = true := decide_eq_true (by omega)
    clear HAs
    go_wp2
    go_ret
    exact ⟨rfl, hA.out⟩
  have g2 : decide ((20 : Int) < (q.size : Int)) = false := decide_eq_false (by omega)
  cases hf : Mm.isFr f
  · rw [row_none f hf, show (ByteArray.mk (Bm.row []).toArray) = ByteArray.mk #[] from rfl]
    clear HAs
    go_wp2
    all_goals
      go_ret
      exact ⟨rfl, hA.out⟩
  rw [ack_row f hf]
  cases hg : Mm.isFr g
  · rw [row_none g hg, show (ByteArray.mk (Bm.row []).toArray) = ByteArray.mk #[] from rfl]
    have hne : (ByteArray.mk (Bm.row (Mm.ackB f)).toArray).toList.isEmpty = false := txt_some (by rw [row_len]; have := (Mm.out_len hf).1; omega)
    generalize ByteArray.mk (Bm.row (Mm.ackB f)).toArray = T at *
    clear HAs
    go_wp2
    go_ret
    exact ⟨rfl, hA.out⟩
  rw [ack_row g hg]
  obtain ⟨haf, hbf⟩ := Mm.out_len hf
  obtain ⟨hag, hbg⟩ := Mm.out_len hg
  obtain ⟨K0, hK⟩ : ∃ K0 : Nat, (a : Int) % (((Mm.outB f).length : Int) - 1) = (K0 : Int) := ⟨a % ((Mm.outB f).length - 1), by
    rw [show ((Mm.outB f).length : Int) - 1 = (((Mm.outB f).length - 1 : Nat) : Int) by omega]; simp⟩
  have hKt : (a : Int).tmod (((Mm.outB f).length : Int) - 1) = (K0 : Int) := by rw [Int.tmod_eq_emod_of_nonneg (by omega)]; exact hK
  obtain ⟨K, hKe⟩ : ∃ K : Nat, K = K0 + 1 := ⟨_, rfl⟩
  have hK1 : 1 ≤ K ∧ K < (Mm.outB f).length := by
    have h := Int.emod_lt_of_pos (a : Int) (show (0 : Int) < ((Mm.outB f).length : Int) - 1 by omega)
    omega
  have HIf : Hid (∀ (k : Nat) (W : World), k < (Mm.outB f).length → (Instr.index 9 (.string ⟨(Bm.row (Mm.ackB f)).toArray⟩) (.int .i64 (k : Int))).run Tryd.prog W = .ok (.int .u8 ((Bm.sign ((Mm.ackB f).getD k true)).toNat : Int)) W) := fun k W hk => idx_row _ k (by rw [Mm.ack_len]; exact hk) W
  have HIg : Hid (∀ (k : Nat) (W : World), k < (Mm.outB g).length → (Instr.index 9 (.string ⟨(Bm.row (Mm.ackB g)).toArray⟩) (.int .i64 (k : Int))).run Tryd.prog W = .ok (.int .u8 ((Bm.sign ((Mm.ackB g).getD k true)).toNat : Int)) W) := fun k W hk => idx_row _ k (by rw [Mm.ack_len]; exact hk) W
  have hlf := row_len f
  have hlg := row_len g
  have hnf : (ByteArray.mk (Bm.row (Mm.ackB f)).toArray).toList.isEmpty = false := txt_some (by rw [hlf]; omega)
  have hng : (ByteArray.mk (Bm.row (Mm.ackB g)).toArray).toList.isEmpty = false := txt_some (by rw [hlg]; omega)
  have HB : Hid (∀ k, k < (Mm.outB f).length → k ≠ K → ∀ c, c = Bm.sign ((Mm.ackB f).getD k true) → ∃ l, Mm.sample (hw f g K k) (c != 48) = (hw f g K (k + 1), l)) := fun k hk hne c hc => by rw [hc, bit_byte]; exact hw_bit hf K k hK1.1 hk hne
  have HBK : Hid (∀ c, c = Bm.sign ((Mm.ackB f).getD K true) → ∃ l, Mm.sample (Mm.hs true g f K) (c != 48) = (hw f g K (K + 1), l)) := fun c hc => by rw [hc, bit_byte]; exact hw_at hf K hK1.1 hK1.2
  have HAq : Hid (Mm.ask (hw f g K K) g = (0, Mm.hs true g f K)) := by
    show _ = _
    unfold hw
    rw [if_pos (Nat.le_refl _)]
    exact hs_ask hg K hK1.1 hK1.2
  have HEn : Hid (hw f g K (Mm.outB f).length = pw f g 0) := hw_end hf K hK1.2
  have HT1 : Hid (∀ k, k + 1 < (Mm.outB g).length → ∀ c, c = Bm.sign ((Mm.ackB g).getD k true) → Mm.sample (Mm.tst g ((Mm.ackB f).take ((Mm.outB f).length - 1)) true 0 0 k) (c != 48) = (Mm.tst g ((Mm.ackB f).take ((Mm.outB f).length - 1)) true 0 0 (k + 1), if k = 0 then [⟨6, Cm.noF, 0⟩] else [])) := fun k hk c hc => by rw [hc, bit_byte]; exact Mm.tst_bit hg _ _ _ _ k hk
  have HTZ : Hid (∀ k, k + 1 = (Mm.outB g).length → ∀ c, c = Bm.sign ((Mm.ackB g).getD k true) → Mm.sample (Mm.tst g ((Mm.ackB f).take ((Mm.outB f).length - 1)) true 0 0 k) (c != 48) = (Mm.pz 3 false g ((Mm.ackB g).take (k + 1)) false (Km.sentS 0 0 true) 0, [⟨1, g, 0⟩])) := fun k hk c hc => by rw [hc, bit_byte]; exact Mm.tst_last hg _ _ _ _ k hk
  have HTD : Hid (∀ k, k < (Mm.outB g).length → (if Mm.drive (Mm.tst g ((Mm.ackB f).take ((Mm.outB f).length - 1)) true 0 0 k) then (49 : Int) else 48) = ((Bm.sign ((Mm.outB g).getD k true)).toNat : Int)) := fun k hk => by rw [Mm.tst_drive _ _ _ _ k hg hk, sign_dv]
  have HN9 : Hid (∀ i, i < (Mm.outB g).length → ((Bm.sign ((Mm.outB g).getD i true)).toNat : Int) = ((Bm.sign ((Mm.ackB g).getD i true)).toNat : Int) ∨ i = (Mm.outB g).length - 9) := fun i hi => nine_ack hg i hi
  have HPt : Hid (pw f g 3 = Mm.tst g ((Mm.ackB f).take ((Mm.outB f).length - 1)) true 0 0 0) := rfl
  have ha0 : (0 : Int) ≤ (a : Int) := by omega
  have ha1 : (a : Int) < 256 := by omega
  have hC : Hid (Ctx W (fun g => w2.heap.size ≤ g) w2) := Ctx.from HT.out hA.out
  have LGP : Hid (¬ (fun g => w2.heap.size ≤ g) (W.heap.size + 1)) := Nat.not_le.2 LG.out.lt
  clear HT hA hf hg LF h256
  generalize (Mm.ackB f).take ((Mm.outB f).length - 1) = BB at *
  generalize ByteArray.mk (Bm.row (Mm.ackB f)).toArray = T at *
  generalize ByteArray.mk (Bm.row (Mm.ackB g)).toArray = U at *
  generalize (Mm.outB f).length = L at *
  generalize (Mm.outB g).length = M at *
  obtain ⟨hKa, hKb⟩ := hK1
  have HKe : Hid (K = K0 + 1) := hKe
  have hK0 : K0 < 200 := by omega
  clear hKe
  go_wp2_with fail
  refine (idle_any S hC.out).mono ?_
  rintro e w3 ⟨p, rfl, O', C', hk'⟩
  replace hC : Hid (Ctx W _ w3) := C'
  have OM : Hid (OwnM At _ w3 _ _) := O'
  replace LG : Hid (Lies w3 _ _ _ _ _) := LG.out.kept hk' LGP.out
  clear O' C' hk' LF3 LG3
  have HS0 : Hid (hw f g K 0 = Mm.idS false Cm.noF [] false 0 0) := by show _ = _; unfold hw Mm.hs; rw [if_pos (Nat.zero_le _), if_pos rfl]
  go_wp2_with fail
  clear hK hKt
  go_loopw [11] (fun i wr => ∃ k : Nat, k ≤ L ∧ i = .int .i64 k ∧ Hid (OwnM At (fun g => w2.heap.size ≤ g) wr p (hw f g K k)) ∧ Hid (Ctx W (fun g => w2.heap.size ≤ g) wr) ∧ Hid (Lies wr (W.heap.size + 1) g.1 g.2.1 g.2.2.1 q)) (fun i _ => L - (intOf i).toNat)
  case atStart => exact ⟨0, Nat.zero_le _, rfl, by rw [HS0.out]; exact OM, hC, LG⟩
  case round =>
    clear OM hC LG
    obtain ⟨k, hk, rfl, OM, hC, LG⟩ := hrel
    by_cases hlt : k < L
    · have hix := fun W => HIf.out k W hlt
      by_cases hkK : k = K
      · have gk : ((k : Int) == (K0 : Int) + 1) = true := by rw [beq_iff_eq]; have := HKe.out; omega
        have OM1 : Hid (OwnM At (fun g => w2.heap.size ≤ g) wr p (hw f g K K)) := by rw [← hkK]; rw [← hkK] at OM; exact OM
        obtain ⟨l, EQ⟩ := HBK.out _ rfl
        have HA := fun w hO hC => HAs.out (fun g => w2.heap.size ≤ g) w p _ _ 0 HAq.out (by omega) hO hC
        have HKK : Hid (k = K) := hkK
        have hcc : Bm.sign ((Mm.ackB f).getD K true) = Bm.sign ((Mm.ackB f).getD k true) := by rw [hkK]
        rw [hcc] at EQ
        clear hkK OM hcc HIf HIg HB HBK HAq HEn HT1 HTZ HTD HN9 HPt HS0 HAs
        generalize Bm.sign ((Mm.ackB f).getD k true) = c at *
        have LG0 := LG.out.c0
        have LG1 := LG.out.c1
        have LG2 := LG.out.c2
        have LG3 := LG.out.c3
        go_wp2_with fail
        refine (HA _ OM1.out hC.out).mono ?_
        rintro e w4 ⟨rfl, O', C', hk'⟩
        replace hC : Hid (Ctx W _ w4) := C'
        have OM : Hid (OwnM At _ w4 _ _) := O'
        replace LG : Hid (Lies w4 _ _ _ _ _) := LG.out.kept hk' LGP.out
        clear O' C' hk' HA OM1 LG0 LG1 LG2 LG3
        go_wp2_with fail
        refine (am_sample S c EQ OM.out hC.out).mono ?_
        rintro e w5 ⟨sl, cp, rfl, _, O', C', hk'⟩
        replace hC : Hid (Ctx W _ w5) := C'
        replace OM : Hid (OwnM At _ w5 _ _) := O'
        replace LG : Hid (Lies w5 _ _ _ _ _) := LG.out.kept hk' LGP.out
        clear O' C' hk' EQ hix gk
        generalize l.length = ln
        go_wp2
        go_roundw
        case rel => exact ⟨k + 1, by omega, by go_num, by rw [HKK.out]; exact OM, hC, LG⟩
        case measure => simp [intOf]; omega
      · have gk : ((k : Int) == (K0 : Int) + 1) = false := by rw [beq_eq_false_iff_ne]; have := HKe.out; omega
        obtain ⟨l, EQ⟩ := HB.out k hlt hkK _ rfl
        clear HIf HIg HB HBK HAq HEn HT1 HTZ HTD HN9 HPt HS0 HAs
        generalize Bm.sign ((Mm.ackB f).getD k true) = c at *
        go_wp2_with fail
        refine (am_sample S c EQ OM.out hC.out).mono ?_
        rintro e w5 ⟨sl, cp, rfl, _, O', C', hk'⟩
        replace hC : Hid (Ctx W _ w5) := C'
        replace OM : Hid (OwnM At _ w5 _ _) := O'
        replace LG : Hid (Lies w5 _ _ _ _ _) := LG.out.kept hk' LGP.out
        clear O' C' hk' EQ hix gk
        generalize l.length = ln
        go_wp2
        go_roundw
        case rel => exact ⟨k + 1, by omega, by go_num, OM, hC, LG⟩
        case measure => simp [intOf]; omega
    · have OM1 : Hid (OwnM At (fun g => w2.heap.size ≤ g) wr p (pw f g 0)) := by rw [← HEn.out, show L = k by omega]; exact OM
      clear OM HB HBK HAq HEn HIf HS0 HAs
      go_wp2_with fail
      go_loopw [12] (fun i wr => ∃ j : Nat, j ≤ 3 ∧ i = .int .i64 j ∧ Hid (OwnM At (fun g => w2.heap.size ≤ g) wr p (pw f g j)) ∧ Hid (Ctx W (fun g => w2.heap.size ≤ g) wr) ∧ Hid (Lies wr (W.heap.size + 1) g.1 g.2.1 g.2.2.1 q)) (fun i _ => 3 - (intOf i).toNat)
      case atStart => exact ⟨0, Nat.zero_le _, rfl, OM1, hC, LG⟩
      case round =>
        clear OM1 hC LG
        obtain ⟨j, hj, rfl, OM, hC, LG⟩ := hrel
        by_cases hjl : j < 3
        · skip
          go_wp2_with fail
          refine (am_drive S (pw_drive f g j hjl) OM.out hC.out).mono ?_
          rintro e w' ⟨rfl, O', C', hk'⟩
          replace hC : Hid (Ctx W _ w') := C'
          replace OM : Hid (OwnM At _ w' _ _) := O'
          replace LG : Hid (Lies w' _ _ _ _ _) := LG.out.kept hk' LGP.out
          try clear LG0 LG1 LG2 LG3
          have LG0 := LG.out.c0
          have LG1 := LG.out.c1
          have LG2 := LG.out.c2
          have LG3 := LG.out.c3
          clear O' C' hk'
          go_wp2_with fail
          refine (am_quiet S 49 (pw_one f g j hjl) OM.out hC.out).mono ?_
          rintro e w' ⟨sl, cp, rfl, O', C', hk'⟩
          replace hC : Hid (Ctx W _ w') := C'
          replace OM : Hid (OwnM At _ w' _ _) := O'
          replace LG : Hid (Lies w' _ _ _ _ _) := LG.out.kept hk' LGP.out
          try clear LG0 LG1 LG2 LG3
          have LG0 := LG.out.c0
          have LG1 := LG.out.c1
          have LG2 := LG.out.c2
          have LG3 := LG.out.c3
          clear O' C' hk'
          clear LG0 LG1 LG2 LG3
          go_wp2
          go_roundw
          case rel => exact ⟨j + 1, by omega, by go_num, OM, hC, LG⟩
          case measure => simp [intOf]; omega
        · have OM1 : Hid (OwnM At (fun g => w2.heap.size ≤ g) wr p (Mm.tst g BB true 0 0 0)) := by rw [← HPt.out, show 3 = j by omega]; exact OM
          clear OM
          go_wp2_with fail
          go_loopw [13] (fun i wr => ∃ n : Nat, n < M ∧ i = .int .i64 n ∧ Hid (OwnM At (fun g => w2.heap.size ≤ g) wr p (Mm.tst g BB true 0 0 n)) ∧ Hid (Ctx W (fun g => w2.heap.size ≤ g) wr) ∧ Hid (Lies wr (W.heap.size + 1) g.1 g.2.1 g.2.2.1 q)) (fun i _ => M - (intOf i).toNat)
          case atStart => exact ⟨0, by omega, rfl, OM1, hC, LG⟩
          case round =>
            clear OM1 hC LG
            obtain ⟨n, hn, rfl, OM, hC, LG⟩ := hrel
            have hix := fun W => HIg.out n W hn
            have hdr := HTD.out n hn
            have HS1 : Hid (∀ wa, Below wr.heap.size wr wa → OwnM At (fun g => w2.heap.size ≤ g) wa p (Mm.tst g BB true 0 0 n) ∧ Ctx W (fun g => w2.heap.size ≤ g) wa) := fun wa hb => ⟨OM.out.on S hb, hC.out.more hb⟩
            have HN := HN9.out n hn
            by_cases hz : n + 1 < M
            · have EQ := HT1.out n hz _ rfl
              have gz : ((n : Int) == (M : Int) - 1) = false := by rw [beq_eq_false_iff_ne]; omega
              clear HIg HT1 HTZ HTD HN9 HPt
              generalize Bm.sign ((Mm.outB g).getD n true) = b at *
              generalize Bm.sign ((Mm.ackB g).getD n true) = c at *
              by_cases he : (b.toNat : Int) = (c.toNat : Int)
              · rw [he] at hdr
                clear he HN
                go_wp2_with fail
                refine Lw.wp_region_quiet_below (by kernel_rfl) (by kernel_rfl) ?_
                repeat (first
                  | go_big_quiet_skip
                  | (go_big_quiet_want; go_big_quiet_op; go_big_quiet_on)
                  | (go_big_quiet_want; go_big_quiet_op; apply Exists.intro; refine ⟨fun _ hb' => ?_, ?_⟩; (first
                    | exact Lw.val_rfl _
                    | (go_at_call 13; exact Lw.calls_below hb' (am_driveB S hdr (HS1.out _ hb').1 (HS1.out _ hb').2))
                    | (simp [go_sem, hix]; rfl)); go_big_quiet_on))
                refine wpQuiet_nil ?_
                intro w4 hb4
                replace hC : Hid (Ctx W _ w4) := hC.out.more hb4
                replace OM : Hid (OwnM At _ w4 _ _) := OM.out.on S hb4
                replace LG : Hid (Lies w4 _ _ _ _ _) := LG.out.on hb4
                clear hb4 HS1 hdr
                go_wp2_with fail
                refine (am_sample S c EQ OM.out hC.out).mono ?_
                rintro e w5 ⟨sl, cp, rfl, _, O', C', hk'⟩
                replace hC : Hid (Ctx W _ w5) := C'
                replace OM : Hid (OwnM At _ w5 _ _) := O'
                replace LG : Hid (Lies w5 _ _ _ _ _) := LG.out.kept hk' LGP.out
                clear O' C' hk' EQ hix
                generalize (if n = 0 then [(⟨6, Cm.noF, 0⟩ : Mm.Ev)] else []).length = ln
                go_wp2
                go_roundw
                case rel => exact ⟨n + 1, by omega, by go_num, OM, hC, LG⟩
                case measure => simp [intOf]; omega
              · have g9 : ((n : Int) != (M : Int) - 9) = false := by
                  have h9 := HN.resolve_left he
                  rw [bne_eq_false_iff_eq]
                  omega
                have hbc : ((b.toNat : Int) != (c.toNat : Int)) = true := by rw [bne_iff_ne]; exact he
                clear he HN
                go_wp2_with fail
                refine Lw.wp_region_quiet_below (by kernel_rfl) (by kernel_rfl) ?_
                repeat (first
                  | go_big_quiet_skip
                  | (go_big_quiet_want; go_big_quiet_op; go_big_quiet_on)
                  | (go_big_quiet_want; go_big_quiet_op; apply Exists.intro; refine ⟨fun _ hb' => ?_, ?_⟩; (first
                    | exact Lw.val_rfl _
                    | (go_at_call 13; exact Lw.calls_below hb' (am_driveB S hdr (HS1.out _ hb').1 (HS1.out _ hb').2))
                    | (simp [go_sem, hix]; rfl)); go_big_quiet_on))
                refine wpQuiet_nil ?_
                intro w4 hb4
                replace hC : Hid (Ctx W _ w4) := hC.out.more hb4
                replace OM : Hid (OwnM At _ w4 _ _) := OM.out.on S hb4
                replace LG : Hid (Lies w4 _ _ _ _ _) := LG.out.on hb4
                clear hb4 HS1 hdr
                clear g9 hbc
                go_wp2_with fail
                refine (am_sample S c EQ OM.out hC.out).mono ?_
                rintro e w5 ⟨sl, cp, rfl, _, O', C', hk'⟩
                replace hC : Hid (Ctx W _ w5) := C'
                replace OM : Hid (OwnM At _ w5 _ _) := O'
                replace LG : Hid (Lies w5 _ _ _ _ _) := LG.out.kept hk' LGP.out
                clear O' C' hk' EQ hix
                generalize (if n = 0 then [(⟨6, Cm.noF, 0⟩ : Mm.Ev)] else []).length = ln
                go_wp2
                go_roundw
                case rel => exact ⟨n + 1, by omega, by go_num, OM, hC, LG⟩
                case measure => simp [intOf]; omega
            · have EQ := HTZ.out n (by omega) _ rfl
              have gz : ((n : Int) == (M : Int) - 1) = true := by rw [beq_iff_eq]; omega
              clear HIg HT1 HTZ HTD HN9 HPt
              generalize Bm.sign ((Mm.outB g).getD n true) = b at *
              generalize Bm.sign ((Mm.ackB g).getD n true) = c at *
              by_cases he : (b.toNat : Int) = (c.toNat : Int)
              · rw [he] at hdr
                clear he HN
                go_wp2_with fail
                refine Lw.wp_region_quiet_below (by kernel_rfl) (by kernel_rfl) ?_
                repeat (first
                  | go_big_quiet_skip
                  | (go_big_quiet_want; go_big_quiet_op; go_big_quiet_on)
                  | (go_big_quiet_want; go_big_quiet_op; apply Exists.intro; refine ⟨fun _ hb' => ?_, ?_⟩; (first
                    | exact Lw.val_rfl _
                    | (go_at_call 13; exact Lw.calls_below hb' (am_driveB S hdr (HS1.out _ hb').1 (HS1.out _ hb').2))
                    | (simp [go_sem, hix]; rfl)); go_big_quiet_on))
                refine wpQuiet_nil ?_
                intro w4 hb4
                replace hC : Hid (Ctx W _ w4) := hC.out.more hb4
                replace OM : Hid (OwnM At _ w4 _ _) := OM.out.on S hb4
                replace LG : Hid (Lies w4 _ _ _ _ _) := LG.out.on hb4
                clear hb4 HS1 hdr
                go_wp2_with fail
                refine (am_one S c EQ OM.out hC.out).mono ?_
                rintro e w' ⟨eg, ecap, rfl, O', C', hk', ec1, ec2, eL, e0, e1, e2, e3, e4, e5⟩
                replace hC : Hid (Ctx W _ w') := C'
                replace OM : Hid (OwnM At _ w' _ _) := O'
                replace LG : Hid (Lies w' _ _ _ _ _) := LG.out.kept hk' LGP.out
                try clear LG0 LG1 LG2 LG3
                have LG0 := LG.out.c0
                have LG1 := LG.out.c1
                have LG2 := LG.out.c2
                have LG3 := LG.out.c3
                clear O' C' hk'
                have HE : Hid (∀ w'' : World, Below w'.heap.size w' w'' → w''.cell? ⟨eg, 0, none⟩ = some (.int .i64 1) ∧ w''.cell? ⟨eg, 1, none⟩ = some (.bool g.1) ∧ w''.cell? ⟨eg, 2, none⟩ = some (.int .u32 (g.2.1 : Int)) ∧ w''.cell? ⟨eg, 3, none⟩ = some (.bool g.2.2.1) ∧ w''.cell? ⟨eg, 4, none⟩ = some (.string q)) := fun w'' hb =>
                  ⟨(hb.cell (p := ⟨eg, 0, none⟩) eL).trans e0, (hb.cell (p := ⟨eg, 1, none⟩) eL).trans e1, (hb.cell (p := ⟨eg, 2, none⟩) eL).trans e2, (hb.cell (p := ⟨eg, 3, none⟩) eL).trans e3, (hb.cell (p := ⟨eg, 4, none⟩) eL).trans (by rw [HQ.out]; exact e4)⟩
                clear e0 e1 e2 e3 e4 e5 LG0 LG1 LG2 LG3 hix EQ
                go_wp2_with fail
                refine Lw.wp_region_quiet_below (by kernel_rfl) (by kernel_rfl) ?_
                repeat (first
                  | go_big_quiet_skip
                  | (go_big_quiet_want; go_big_quiet_op; go_big_quiet_on)
                  | (go_big_quiet_want; go_big_quiet_op; apply Exists.intro; refine ⟨fun _ hb' => ?_, ?_⟩; (first
                    | exact Lw.val_rfl _
                    | (simp [go_sem, (HE.out _ hb').1]; rfl)
                    | (simp [go_sem, (HE.out _ hb').2.1, (HE.out _ hb').2.2.1, (HE.out _ hb').2.2.2.1, (HE.out _ hb').2.2.2.2]; rfl)
                    | (simp [go_sem, (LG.out.on hb').c0, (LG.out.on hb').c1, (LG.out.on hb').c2, (LG.out.on hb').c3]; rfl)); go_big_quiet_on))
                refine wpQuiet_nil ?_
                intro w9 hb9
                have hA9 := (hC.out.more hb9).below
                go_wp2
                go_ret
                exact ⟨rfl, hA9⟩
              · have g9 : ((n : Int) != (M : Int) - 9) = false := by
                  have h9 := HN.resolve_left he
                  rw [bne_eq_false_iff_eq]
                  omega
                have hbc : ((b.toNat : Int) != (c.toNat : Int)) = true := by rw [bne_iff_ne]; exact he
                clear he HN
                go_wp2_with fail
                refine Lw.wp_region_quiet_below (by kernel_rfl) (by kernel_rfl) ?_
                repeat (first
                  | go_big_quiet_skip
                  | (go_big_quiet_want; go_big_quiet_op; go_big_quiet_on)
                  | (go_big_quiet_want; go_big_quiet_op; apply Exists.intro; refine ⟨fun _ hb' => ?_, ?_⟩; (first
                    | exact Lw.val_rfl _
                    | (go_at_call 13; exact Lw.calls_below hb' (am_driveB S hdr (HS1.out _ hb').1 (HS1.out _ hb').2))
                    | (simp [go_sem, hix]; rfl)); go_big_quiet_on))
                refine wpQuiet_nil ?_
                intro w4 hb4
                replace hC : Hid (Ctx W _ w4) := hC.out.more hb4
                replace OM : Hid (OwnM At _ w4 _ _) := OM.out.on S hb4
                replace LG : Hid (Lies w4 _ _ _ _ _) := LG.out.on hb4
                clear hb4 HS1 hdr
                clear g9 hbc
                go_wp2_with fail
                refine (am_one S c EQ OM.out hC.out).mono ?_
                rintro e w' ⟨eg, ecap, rfl, O', C', hk', ec1, ec2, eL, e0, e1, e2, e3, e4, e5⟩
                replace hC : Hid (Ctx W _ w') := C'
                replace OM : Hid (OwnM At _ w' _ _) := O'
                replace LG : Hid (Lies w' _ _ _ _ _) := LG.out.kept hk' LGP.out
                try clear LG0 LG1 LG2 LG3
                have LG0 := LG.out.c0
                have LG1 := LG.out.c1
                have LG2 := LG.out.c2
                have LG3 := LG.out.c3
                clear O' C' hk'
                have HE : Hid (∀ w'' : World, Below w'.heap.size w' w'' → w''.cell? ⟨eg, 0, none⟩ = some (.int .i64 1) ∧ w''.cell? ⟨eg, 1, none⟩ = some (.bool g.1) ∧ w''.cell? ⟨eg, 2, none⟩ = some (.int .u32 (g.2.1 : Int)) ∧ w''.cell? ⟨eg, 3, none⟩ = some (.bool g.2.2.1) ∧ w''.cell? ⟨eg, 4, none⟩ = some (.string q)) := fun w'' hb =>
                  ⟨(hb.cell (p := ⟨eg, 0, none⟩) eL).trans e0, (hb.cell (p := ⟨eg, 1, none⟩) eL).trans e1, (hb.cell (p := ⟨eg, 2, none⟩) eL).trans e2, (hb.cell (p := ⟨eg, 3, none⟩) eL).trans e3, (hb.cell (p := ⟨eg, 4, none⟩) eL).trans (by rw [HQ.out]; exact e4)⟩
                clear e0 e1 e2 e3 e4 e5 LG0 LG1 LG2 LG3 hix EQ
                go_wp2_with fail
                refine Lw.wp_region_quiet_below (by kernel_rfl) (by kernel_rfl) ?_
                repeat (first
                  | go_big_quiet_skip
                  | (go_big_quiet_want; go_big_quiet_op; go_big_quiet_on)
                  | (go_big_quiet_want; go_big_quiet_op; apply Exists.intro; refine ⟨fun _ hb' => ?_, ?_⟩; (first
                    | exact Lw.val_rfl _
                    | (simp [go_sem, (HE.out _ hb').1]; rfl)
                    | (simp [go_sem, (HE.out _ hb').2.1, (HE.out _ hb').2.2.1, (HE.out _ hb').2.2.2.1, (HE.out _ hb').2.2.2.2]; rfl)
                    | (simp [go_sem, (LG.out.on hb').c0, (LG.out.on hb').c1, (LG.out.on hb').c2, (LG.out.on hb').c3]; rfl)); go_big_quiet_on))
                refine wpQuiet_nil ?_
                intro w9 hb9
                have hA9 := (hC.out.more hb9).below
                go_wp2
                go_ret
                exact ⟨rfl, hA9⟩
theorem walkA (S : MacSpec At) (HK : AckSpec) (x : Bool) (n0 : Int) (r : Bool) (d : ByteArray) (w0 : (Lit.int .u32 n0).wf = true) (x1 : Bool) (n1 : Int) (r1 : Bool) (d1 : ByteArray) (w1 : (Lit.int .u32 n1).wf = true) (a2 : Int) (w2 : (Lit.int .u8 a2).wf = true) (W : World) (hT : Tab W) :
    Calls Tryd.prog 5 #[.agg #[.bool x, .int .u32 n0, .bool r, .string d], .agg #[.bool x1, .int .u32 n1, .bool r1, .string d1], .int .u8 a2] W fun e w' => e = .returned (.bool true) ∧ Below W.heap.size W w' := by
  obtain ⟨n, rfl, hn⟩ := u32_nat w0
  obtain ⟨m, rfl, hm⟩ := u32_nat w1
  obtain ⟨h1, h2⟩ := bounds_u8 w2
  obtain ⟨k, rfl⟩ := Int.eq_ofNat_of_zero_le h1
  exact walkF S HK (x, n, r, d.data.toList) (x1, m, r1, d1.data.toList) d d1 rfl rfl hn hm k (by omega) W hT
end Go.Proofs.YthappkhiiopfgabDoor.macWaits
