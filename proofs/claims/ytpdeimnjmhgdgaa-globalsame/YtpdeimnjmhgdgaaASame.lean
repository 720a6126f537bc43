/- GlobalSame: two clocks, however far apart, that mark the same beats tell the same time at them, and behind them as long as they go alike, for every slice of at most 50 lengths (others are let by); no condition. -/
import Derived.Test.YtpdeimnjmhgdgaaA2
import Derived.Test.YtpdeimnjmhgdgaaFu
import Derived.ProofKit
import Derived.OpenShut
namespace Go.Proofs.Ytpdeimnjmhgdgaa.globalSame
open Go.ChangeShapes Go.WideShapes Go.ChangeAt Go.RowKit
set_option linter.unusedVariables false
variable {At : Ob.A Gq.St}
set_option maxRecDepth 100000 in
set_option maxHeartbeats 1000000 in
theorem long (S : GlobalSpec At) (a b g d : Int) (s : Option Addr) (len cap : Nat) (hl : 50 < len) (W : World) :
    Calls Try.prog 7 #[.int .u16 a, .int .u16 b, .int .u16 g, .slice s len cap, .int .u8 d] W fun e w' => e = .returned (.bool true) ∧ Below W.heap.size W w' := by
  have hk := known11_any S W
  go_enter Try.func7, Try.ntmps7
  go_wp2_with fail
  refine hk.mono ?_
  rintro e w1 ⟨rfl, hb1⟩
  have hA : Hid (Below W.heap.size W w1) := hb1
  clear hk hb1
  go_wp2
  go_ret
  exact ⟨rfl, hA.out⟩
set_option maxRecDepth 100000 in
set_option maxHeartbeats 4000000 in
theorem row (S : GlobalSpec At) (a b g d : Nat) (ha : a < 65536) (hb : b < 65536) (hg : g < 65536) (hd : d < 256) (s : Option Addr) (len cap : Nat) (B : Nat → Nat) (hl : len ≤ 50) (W : World) (h1 : Hid (U8Row W s len B)) :
    Calls Try.prog 7 #[.int .u16 (a : Int), .int .u16 (b : Int), .int .u16 (g : Int), .slice s len cap, .int .u8 (d : Int)] W fun e w' => e = .returned (.bool true) ∧ Below W.heap.size W w' := by
  have hk := known11_any S W
  have IsA := S.is
  have IsB := S.is
  have d1 : ¬ 50 < len := by omega
  have HD : Hid (d < 256) := hd
  have HABG : Hid (a < 65536 ∧ b < 65536 ∧ g < 65536) := ⟨ha, hb, hg⟩
  have di : (d : Int) < 256 := by omega
  have dw : IntKind.u16.wrap (d : Int) = (d : Int) := by rw [IntKind.wrap_u16]; omega
  clear hl ha hb hg hd
  go_enter Try.func7, Try.ntmps7
  go_wp2_with fail
  refine hk.mono ?_
  rintro e w1 ⟨rfl, hb1⟩
  have hA : Hid (Below W.heap.size W w1) := hb1
  clear hk hb1
  go_wp2_with fail
  refine (Ob.own_new (B := W.heap.size) (S.new _) hA.out.size).mono ?_
  rintro e w' ⟨p, rfl, O', hb'⟩
  replace hA : Hid (Below W.heap.size W w') := hA.out.trans hb'
  have OB : Hid (Ob.Own At W.heap.size w' p (.no)) := O'
  clear O' hb'
  go_wp2_with fail
  refine (Ob.two_new IsA (S.new _) OB.out hA.out.size).mono ?_
  rintro e w' ⟨q, rfl, T', hb'⟩
  have TB : Hid (Ob.Two At At W.heap.size w' _ _ q (.no)) := T'
  clear OB
  replace hA : Hid (Below W.heap.size W w') := hA.out.trans hb'
  clear T' hb'
  go_wp2_with fail
  go_loopw [0, 1, 2, 13] (fun va vb vg i wr => ∃ (k a b g : Nat) (s t : Gq.St), k ≤ len ∧ va = .int .u16 a ∧ vb = .int .u16 b ∧ vg = .int .u16 g ∧ i = .int .i64 k ∧ Hid (a < 65536 ∧ b < 65536 ∧ g < 65536) ∧ Hid (Ob.Two At At W.heap.size wr p s q t) ∧ Hid (Below W.heap.size W wr)) (fun _ _ _ i _ => len - (intOf i).toNat)
  case atStart => exact ⟨0, a, b, g, .no, .no, Nat.zero_le _, rfl, rfl, rfl, rfl, HABG, TB, hA⟩
  case round =>
    clear TB hA HABG
    obtain ⟨k, a, b, g, s, t, hk, rfl, rfl, rfl, rfl, HB, TB, hA⟩ := hrel
    by_cases hlt : k < len
    · obtain h0 | ⟨b1, o1, rfl, hc1⟩ := h1.out
      · omega
      have c0 : wr.cell? ⟨b1, o1 + k, none⟩ = some (.int .u8 (B k : Int)) := by
        have h := (hc1 k hlt).1
        rw [hA.out.cell (p := ⟨b1, o1 + k, none⟩) (block_lt_of_cell h)]
        exact h
      have hB := (hc1 k hlt).2
      clear hc1
      generalize B k = x at *
      obtain ⟨hba, hbb, hbg⟩ := HB.out
      have hd := HD.out
      obtain ⟨a2, ha2⟩ : ∃ y, (a + x) % 65536 = y := ⟨_, rfl⟩
      obtain ⟨b2, hb2⟩ : ∃ y, (b + x) % 65536 = y := ⟨_, rfl⟩
      obtain ⟨g2, hg2⟩ : ∃ y, (g + x) % 65536 = y := ⟨_, rfl⟩
      obtain ⟨a3, ha3⟩ : ∃ y, (a2 + d) % 65536 = y := ⟨_, rfl⟩
      obtain ⟨b3, hb3⟩ : ∃ y, (b2 + d) % 65536 = y := ⟨_, rfl⟩
      have xw : IntKind.u16.wrap (x : Int) = (x : Int) := u16_same (Nat.lt_trans hB (by decide))
      have xi : (x : Int) < 256 := Int.ofNat_lt.2 hB
      have e1 := u16_sum ha2
      have e2 := u16_sum hb2
      have e3 := u16_sum hg2
      have e4 := u16_sum ha3
      have e5 := u16_sum hb3
      have HB2 : Hid (a2 < 65536 ∧ b2 < 65536 ∧ g2 < 65536) := ⟨mod_u16 ha2, mod_u16 hb2, mod_u16 hg2⟩
      have HB3 : Hid (a3 < 65536 ∧ b3 < 65536) := ⟨mod_u16 ha3, mod_u16 hb3⟩
      obtain ⟨v, hv⟩ : ∃ v, Gq.off ⟨0, g2, a2⟩ a3 = v := ⟨_, rfl⟩
      have hv2 : Gq.off ⟨0, g2, b2⟩ b3 = v := by rw [← hv, ← ha3, ← hb3, Gq.off_on 0 HB2.out.2.2 HB2.out.1, Gq.off_on 0 HB2.out.2.2 HB2.out.2.1]
      have hv3 : Gq.off ⟨0, g2, a2⟩ a2 = g2 := Gq.off_at 0 HB2.out.2.2 HB2.out.1
      have HT1 : Hid (∀ w p F, At w p F (Gq.beat s 0 g2 a2 false) → Ob.Looks Try.prog 18 #[Ob.ptr p, .int .u16 (a3 : Int)] w (.int .u16 (v : Int))) := fun w p F h => by
        have := S.tell w p F _ a3 HB3.out.1 h
        rw [Gq.tell_beat, hv] at this
        exact this
      have HT2 : Hid (∀ w p F, At w p F (Gq.beat t 0 g2 b2 false) → Ob.Looks Try.prog 18 #[Ob.ptr p, .int .u16 (b3 : Int)] w (.int .u16 (v : Int))) := fun w p F h => by
        have := S.tell w p F _ b3 HB3.out.2 h
        rw [Gq.tell_beat, hv2] at this
        exact this
      have HT3 : Hid (∀ w p F, At w p F (Gq.beat s 0 g2 a2 false) → Ob.Looks Try.prog 18 #[Ob.ptr p, .int .u16 (a2 : Int)] w (.int .u16 (g2 : Int))) := fun w p F h => by
        have := S.tell w p F _ a2 HB2.out.1 h
        rw [Gq.tell_beat, hv3] at this
        exact this
      clear ha2 hb2 hg2 ha3 hb3 hv hv2 hv3 hba hbb hbg hd hB HB
      go_wp2_with fail
      refine (Ob.two_turn IsB (fun F h => S.beat _ _ F _ 0 g2 a2 false rfl HB2.out.2.2 HB2.out.1 h) TB.out hA.out.size).mono ?_
      rintro e w' ⟨rfl, T', hb'⟩
      replace TB : Hid (Ob.Two At At W.heap.size w' _ (Gq.beat s 0 g2 a2 false) _ _) := T'
      replace hA : Hid (Below W.heap.size W w') := hA.out.trans hb'
      clear T' hb'
      go_wp2_with fail
      refine (Ob.two_turn2 IsA (fun F h => S.beat _ _ F _ 0 g2 b2 false rfl HB2.out.2.2 HB2.out.2.1 h) TB.out hA.out.size).mono ?_
      rintro e w' ⟨rfl, T', hb'⟩
      replace TB : Hid (Ob.Two At At W.heap.size w' _ _ _ (Gq.beat t 0 g2 b2 false)) := T'
      replace hA : Hid (Below W.heap.size W w') := hA.out.trans hb'
      clear T' hb'
      go_wp2_with fail
      refine (Ob.two_look IsA IsB (fun F h => HT1.out _ _ F h) TB.out hA.out.size).mono ?_
      rintro e w' ⟨rfl, T', hb'⟩
      replace TB : Hid (Ob.Two At At W.heap.size w' _ _ _ _) := T'
      replace hA : Hid (Below W.heap.size W w') := hA.out.trans hb'
      clear T' hb'
      go_wp2_with fail
      refine (Ob.two_look2 IsA IsB (fun F h => HT2.out _ _ F h) TB.out hA.out.size).mono ?_
      rintro e w' ⟨rfl, T', hb'⟩
      replace TB : Hid (Ob.Two At At W.heap.size w' _ _ _ _) := T'
      replace hA : Hid (Below W.heap.size W w') := hA.out.trans hb'
      clear T' hb'
      go_wp2_with fail
      refine (Ob.two_look IsA IsB (fun F h => HT3.out _ _ F h) TB.out hA.out.size).mono ?_
      rintro e w' ⟨rfl, T', hb'⟩
      replace TB : Hid (Ob.Two At At W.heap.size w' _ _ _ _) := T'
      replace hA : Hid (Below W.heap.size W w') := hA.out.trans hb'
      clear T' hb'
      go_wp2
      exact ⟨⟨k + 1, a2, b2, g2, _, _, by omega, rfl, rfl, rfl, by simp, HB2, TB, hA⟩, by simp [intOf]; omega⟩
    · have hkl : k = len := by omega
      go_wp2
      go_ret
      exact ⟨rfl, hA.out⟩
theorem walkA (S : GlobalSpec At) (a0 : Int) (w0 : (Lit.int .u16 a0).wf = true) (a1 : Int) (w1 : (Lit.int .u16 a1).wf = true) (a2 : Int) (w2 : (Lit.int .u16 a2).wf = true) (s3 : Option Addr) (len3 cap3 : Nat) {w : World} (w3 : len3 ≤ maxLen ∧ ∃ B, U8Row w s3 len3 B) (a4 : Int) (w4 : (Lit.int .u8 a4).wf = true) (w' : World) (hw : w' = w) :
    Calls Try.prog 7 #[.int .u16 a0, .int .u16 a1, .int .u16 a2, .slice s3 len3 cap3, .int .u8 a4] w' fun e w'' => e = .returned (.bool true) ∧ Below w'.heap.size w' w'' := by
  subst hw
  obtain ⟨_, B, hB⟩ := w3
  obtain ⟨h1, h2⟩ := bounds_u16 w0
  obtain ⟨h3, h4⟩ := bounds_u16 w1
  obtain ⟨h5, h6⟩ := bounds_u16 w2
  obtain ⟨h7, h8⟩ := bounds_u8 w4
  obtain ⟨a, rfl⟩ := Int.eq_ofNat_of_zero_le h1
  obtain ⟨b, rfl⟩ := Int.eq_ofNat_of_zero_le h3
  obtain ⟨c, rfl⟩ := Int.eq_ofNat_of_zero_le h5
  obtain ⟨d, rfl⟩ := Int.eq_ofNat_of_zero_le h7
  by_cases h : 50 < len3
  · exact long S _ _ _ _ _ _ _ h _
  · exact row S a b c d (by omega) (by omega) (by omega) (by omega) _ _ _ B (by omega) _ hB
end Go.Proofs.Ytpdeimnjmhgdgaa.globalSame
