/- WindowEdges: for every five bytes: a window has its first unit and its last one, and neither the one ahead nor the one behind; no condition. -/
import Derived.Test.YtmfehobpbpkcaaaDoorWb
import Derived.Test.YtmfehobpbpkcaaaDoorWe
import Derived.Test.YtmfehobpbpkcaaaDoorHl
import Derived.Deep.CutBlock
import Derived.ProofKit
import Derived.OpenShut
namespace Go.Proofs.YtmfehobpbpkcaaaDoor.windowEdges
open Go.ChangeShapes Go.WideShapes Go.ChangeAt Go.RowKit
set_option linter.unusedVariables false
variable {Q : World → Prop}
theorem natU8w {v : Int} (h : (Lit.int .u8 v).wf = true) : ∃ n : Nat, v = (n : Int) ∧ n < 256 := by
  simp [Lit.wf, IntKind.min, IntKind.max, IntKind.signed, IntKind.bits] at h
  obtain ⟨n, rfl⟩ := Int.eq_ofNat_of_zero_le (show 0 ≤ v by omega)
  exact ⟨n, rfl, by omega⟩
set_option maxRecDepth 100000 in
set_option maxHeartbeats 8000000 in
theorem walkA (hQ : ∀ w w', Q w → Below w.heap.size w w' → Q w') (S : WinSpec Q) (c0 : Int) (w0 : (Lit.int .u8 c0).wf = true) (c1 : Int) (w1 : (Lit.int .u8 c1).wf = true) (c2 : Int) (w2 : (Lit.int .u8 c2).wf = true) (c3 : Int) (w3 : (Lit.int .u8 c3).wf = true) (c4 : Int) (w4 : (Lit.int .u8 c4).wf = true) (W : World) (hW : Q W) :
    Calls Tryd.prog 5 #[.int .u8 c0, .int .u8 c1, .int .u8 c2, .int .u8 c3, .int .u8 c4] W fun e w' => e = .returned (.bool true) ∧ Below W.heap.size W w' := by
  have HQ : Hid (∀ w, Below W.heap.size W w → Q w) := fun w hb => hQ W w hW hb
  have HK : Hid (∀ w, Below W.heap.size W w → Calls Tryd.prog 6 #[] w fun e w' => e = .returned (.bool true) ∧ Below w.heap.size w w') := fun w hb => known16_any hQ S w (HQ.out _ hb)
  obtain ⟨c0, rfl, b0⟩ := natU8w w0
  obtain ⟨c1, rfl, b1⟩ := natU8w w1
  obtain ⟨c2, rfl, b2⟩ := natU8w w2
  obtain ⟨c3, rfl, b3⟩ := natU8w w3
  obtain ⟨c4, rfl, b4⟩ := natU8w w4
  have hA : Hid (Below W.heap.size W W) := Below.refl _ _
  obtain ⟨k, hk⟩ : ∃ k : Nat, c2 % 3 + 1 = k := ⟨_, rfl⟩
  obtain ⟨s, hs⟩ : ∃ s : Nat, c0 + 40 = s := ⟨_, rfl⟩
  obtain ⟨n, hn⟩ : ∃ n : Nat, c1 % 100 + 40 = n := ⟨_, rfl⟩
  obtain ⟨e, he⟩ : ∃ e : Nat, c4 % 4 = e := ⟨_, rfl⟩
  obtain ⟨r, hr⟩ : ∃ r : Nat, 2 ^ e = r := ⟨_, rfl⟩
  have hr4 : r = 1 ∨ r = 2 ∨ r = 4 ∨ r = 8 := by
    have : e = 0 ∨ e = 1 ∨ e = 2 ∨ e = 3 := by omega
    rcases this with rfl | rfl | rfl | rfl <;> rw [← hr] <;> simp
  obtain ⟨q, hq⟩ : ∃ q : Nat, c3 % r = q := ⟨_, rfl⟩
  have hqr : q < r := by rw [← hq]; exact Nat.mod_lt _ (by omega)
  have ik : (c2 : Int) % 3 + 1 = (k : Int) := by omega
  have is : (c0 : Int) + 40 = (s : Int) := by omega
  have i_n : (c1 : Int) % 100 + 40 = (n : Int) := by omega
  have ie : (c4 : Int) % 4 = (e : Int) := by omega
  have ir0 : ¬ ((r : Int) = 0) := by omega
  have ir1 : ¬ (r = 0) := by omega
  have iq : (c3 : Int).tmod (r : Int) = (q : Int) := by rw [← hq]; exact Int.ofNat_tmod c3 r
  have HOk : Hid (Wq.Ok (k : Int) (s : Int) (n : Int) (q : Int) (r : Int)) := ⟨by omega, by omega, by omega, by omega, by omega⟩
  have s1 : (s : Int) ≤ 295 := by omega
  have n1 : (n : Int) ≤ 139 := by omega
  have k1 : (k : Int) ≤ 3 := by omega
  have r1 : (r : Int) ≤ 8 := by omega
  have q1 : (q : Int) ≤ 8 := by omega
  clear w0 w1 w2 w3 w4
  go_enter Tryd.func5, Tryd.ntmps5
  go_wp2_with fail
  refine (HK.out _ hA.out).mono ?_
  rintro e z1 ⟨rfl, hb⟩
  replace hA : Hid (Below W.heap.size W z1) := hA.out.trans (hb.mono hA.out.size)
  clear hb HK
  go_wp2_with fail
  refine (least16_any z1).mono ?_
  rintro e z2 ⟨a, rfl, hO, hb⟩
  have HX : Hid (Mb W (z2.alloc (.cells #[.int .i64 Mx.l16.level, .int .i64 Mx.l16.nodes, .int .i64 Mx.l16.cycles, .int .i64 Mx.l16.length, .int .i64 Mx.l16.enable, .int .i64 Mx.l16.unit, .int .i64 Mx.l16.init, .int .u32 (Mx.l16.ref : Int), .slice a.s1 Mx.l16.masters.length a.c1, .slice a.s2 Mx.l16.messages.length a.c2, .slice a.s3 Mx.l16.windows.length a.c3] 27)) z2.heap.size Mx.l16 a) := Mb.of (hO.mono hA.out.size) (hA.out.trans (hb.mono hA.out.size))
  clear hO hb hA
  dsimp only [mV, mCs]
  go_upto_region 4 with fail
  generalize z2.alloc (.cells #[.int .i64 Mx.l16.level, .int .i64 Mx.l16.nodes, .int .i64 Mx.l16.cycles, .int .i64 Mx.l16.length, .int .i64 Mx.l16.enable, .int .i64 Mx.l16.unit, .int .i64 Mx.l16.init, .int .u32 (Mx.l16.ref : Int), .slice a.s1 Mx.l16.masters.length a.c1, .slice a.s2 Mx.l16.messages.length a.c2, .slice a.s3 Mx.l16.windows.length a.c3] 27) = z3 at HX ⊢
  generalize z2.heap.size = p at HX ⊢
  have qc : z3.cell? ⟨p, 2, none⟩ = some (.int .i64 2) := HX.out.row.c 2 _ rfl
  have fc : z3.frozen? ⟨p, 2, none⟩ = false := HX.out.row.f 2
  have HX1 : Hid (Mb W (z3.setCell ⟨p, 2, none⟩ (.int .i64 8)) p { Mx.l16 with cycles := 8 } a) := HX.out.word 2 _ rfl rfl rfl rfl
  have qd : (z3.setCell ⟨p, 2, none⟩ (.int .i64 8)).cell? ⟨p, 3, none⟩ = some (.int .i64 100) := HX1.out.row.c 3 _ rfl
  have fd : (z3.setCell ⟨p, 2, none⟩ (.int .i64 8)).frozen? ⟨p, 3, none⟩ = false := HX1.out.row.f 3
  have HX2 : Hid (Mb W ((z3.setCell ⟨p, 2, none⟩ (.int .i64 8)).setCell ⟨p, 3, none⟩ (.int .i64 600)) p { Mx.l16 with cycles := 8, length := 600 } a) := HX1.out.word 3 _ rfl rfl rfl rfl
  clear HX HX1
  have hw2 : wrap64 ((2 : Int) ^ e) = (r : Int) := by
    have h : e = 0 ∨ e = 1 ∨ e = 2 ∨ e = 3 := by omega
    rw [← hr]
    rcases h with h | h | h | h <;> subst h <;> decide +kernel
  clear hk hs hn hr hq hqr hr4 he
  go_upto_region 6 with fail
  rw [hw2]
  go_upto_region 8 with fail
  clear qc fc qd fd
  generalize (z3.setCell ⟨p, 2, none⟩ (.int .i64 8)).setCell ⟨p, 3, none⟩ (.int .i64 600) = z4 at HX2 ⊢
  have qk : ∀ o, (z4.alloc o).cell? ⟨p, 10, none⟩ = some (.slice a.s3 1 a.c3) := fun o => (HX2.out.al o).row.c 10 _ rfl
  have fk : ∀ o, (z4.alloc o).frozen? ⟨p, 10, none⟩ = false := fun o => (HX2.out.al o).row.f 10
  have HX3 : Hid (Mb W ((z4.alloc (.cells #[.int .i64 (k : Int), .int .i64 (s : Int), .int .i64 ((s : Int) + (n : Int)), .int .i64 (q : Int), .int .i64 (r : Int), .int .i64 0] 32)).setCell ⟨p, 10, none⟩ (.slice (some ⟨z4.heap.size, 0, none⟩) 1 1)) p (Wq.one k s n q r) { a with s3 := some ⟨z4.heap.size, 0, none⟩, c3 := 1 }) := (HX2.out.al _).put3 (xs := [⟨(k : Int), (s : Int), (s : Int) + (n : Int), (q : Int), (r : Int), 0⟩]) (Mb.ol_lit 32 6 W.heap.size z4 1 _ rfl HX2.out.bel.size (by decide)) rfl
  clear HX2
  go_upto_region 9 with fail
  generalize (z4.alloc (.cells #[.int .i64 (k : Int), .int .i64 (s : Int), .int .i64 ((s : Int) + (n : Int)), .int .i64 (q : Int), .int .i64 (r : Int), .int .i64 0] 32)).setCell ⟨p, 10, none⟩ (.slice (some ⟨z4.heap.size, 0, none⟩) 1 1) = z5 at HX3 ⊢
  generalize ({ a with s3 := some ⟨z4.heap.size, 0, none⟩, c3 := 1 } : Ma) = a' at HX3
  clear qk fk hw2 ik is i_n ie
  have HI : Hid (Mx.is (Wq.one k s n q r) = true) := Wq.one_is HOk.out
  have HAt : Hid (∀ (w : World) (c u x : Int), Mb W w p (Wq.one k s n q r) a' → (Lit.int .i64 c).wf = true → (Lit.int .i64 u).wf = true → Wq.atW (Wq.one k s n q r) c u = x → Calls Tryd.prog 9 #[mV (Wq.one k s n q r) a', .int .i64 c, .int .i64 u] w fun e w' => e = .returned (.int .i64 x) ∧ Below w.heap.size w w') := fun w c u x h h1 h2 hx => by subst hx; exact S.at_ w _ a' c u (HQ.out _ h.bel) h.mem (Mx.small_is HI.out) (Mx.wf_is HI.out) h1 h2
  have HOw : Hid (∀ (w : World) (c u x : Int), Mb W w p (Wq.one k s n q r) a' → (Lit.int .i64 c).wf = true → (Lit.int .i64 u).wf = true → Wq.owner (Wq.one k s n q r) c u = x → Calls Tryd.prog 10 #[mV (Wq.one k s n q r) a', .int .i64 c, .int .i64 u] w fun e w' => e = .returned (.int .i64 x) ∧ Below w.heap.size w w') := fun w c u x h h1 h2 hx => by subst hx; exact S.owner w _ a' c u (HQ.out _ h.bel) h.mem (Mx.small_is HI.out) (Mx.wf_is HI.out) h1 h2
  have HFr : Hid (∀ (w : World) (c x : Int), Mb W w p (Wq.one k s n q r) a' → (Lit.int .i64 c).wf = true → (Wq.free (Wq.one k s n q r) c : Int) = x → Calls Tryd.prog 13 #[mV (Wq.one k s n q r) a', .int .i64 c] w fun e w' => e = .returned (.int .i64 x) ∧ Below w.heap.size w w') := fun w c x h h1 hx => by subst hx; exact S.free w _ a' c (HQ.out _ h.bel) h.mem (Mx.small_is HI.out) (Mx.wf_is HI.out) h1
  have HIs : Hid (∀ (w : World), Mb W w p (Wq.one k s n q r) a' → Calls Tryd.prog 15 #[mV (Wq.one k s n q r) a'] w fun e w' => e = .returned (.bool true) ∧ Below w.heap.size w w') := fun w h => by have := ris_any w _ a' h.mem (Mx.small_is HI.out); rw [HI.out] at this; exact this
  clear hQ hW
  go_upto_block 0 with fail
  go_wp2_with fail
  go_loopw [16, 17, 18] (fun vi _ _ wr => ∃ c : Nat, c ≤ 8 ∧ vi = .int .i64 (c : Int) ∧ Hid (Mb W wr p (Wq.one k s n q r) a')) (fun vi _ _ _ => 8 - (intOf vi).toNat)
  case atStart => exact ⟨0, Nat.zero_le _, rfl, HX3⟩
  case round =>
    clear HX3
    obtain ⟨c, hc, rfl, HX⟩ := hrel
    by_cases hc8 : c < 8
    · have ci : (c : Int) < 8 := by omega
      obtain ⟨M, hM⟩ : ∃ M : Nat, c % r = M := ⟨_, rfl⟩
      have e1 : (c : Int).tmod (r : Int) = (M : Int) := by rw [← hM]; exact Int.ofNat_tmod c r
      have hMr : M < r := by rw [← hM]; exact Nat.mod_lt _ (by omega)
      have v1 : IntKind.i64.wrap (c : Int) = (c : Int) := by rw [IntKind.wrap_i64]; omega
      have v2 : IntKind.i64.wrap ((c : Int).tmod (r : Int)) = (M : Int) := by rw [e1, IntKind.wrap_i64]; omega
      have v3 : IntKind.i64.wrap (c3 : Int) = (c3 : Int) := by rw [IntKind.wrap_i64]; omega
      have v4 : IntKind.i64.wrap ((c3 : Int).tmod (r : Int)) = (q : Int) := by rw [iq, IntKind.wrap_i64]; omega
      obtain ⟨b, hb⟩ : ∃ b : Bool, ((M : Int) == (q : Int)) = b := ⟨_, rfl⟩
      have hcm : Mx.comes (q : Int) (r : Int) (c : Int) = b := by
        have hq := HOk.out.hq
        rw [Lq.comes_mod (by omega) hq.1 hq.2, ← hb, ← hM, Int.natCast_emod]
      have HVc : Hid ((Lit.int .i64 (c : Int)).wf = true) := wfi (by omega)
      have ha1 := Wq.one_at HOk.out (c : Int) (s : Int)
      have ha2 := Wq.one_at HOk.out (c : Int) ((s : Int) + (n : Int) - 1)
      have ha3 := Wq.one_at HOk.out (c : Int) ((s : Int) - 1)
      have ha4 := Wq.one_at HOk.out (c : Int) ((s : Int) + (n : Int))
      have hn := HOk.out.hn
      rw [hcm, decide_eq_true (show (s : Int) ≤ (s : Int) by omega), decide_eq_true (show (s : Int) < (s : Int) + (n : Int) by omega), Bool.and_self, Bool.and_true] at ha1
      rw [hcm, decide_eq_true (show (s : Int) ≤ (s : Int) + (n : Int) - 1 by omega), decide_eq_true (show (s : Int) + (n : Int) - 1 < (s : Int) + (n : Int) by omega), Bool.and_self, Bool.and_true] at ha2
      rw [decide_eq_false (show ¬ (s : Int) ≤ (s : Int) - 1 by omega), Bool.false_and, Bool.and_false] at ha3
      rw [decide_eq_false (show ¬ (s : Int) + (n : Int) < (s : Int) + (n : Int) by omega), Bool.and_false, Bool.and_false] at ha4
      have hfr := Wq.one_free HOk.out hc8
      have how := Wq.one_owner HOk.out (c : Int)
      rw [hcm] at hfr how
      have A1 : Hid (Wq.atW (Wq.one k s n q r) (c : Int) (s : Int) = if b = true then 0 else -1) := ha1
      have A2 : Hid (Wq.atW (Wq.one k s n q r) (c : Int) ((s : Int) + (n : Int) - 1) = if b = true then 0 else -1) := ha2
      have A3 : Hid (Wq.atW (Wq.one k s n q r) (c : Int) ((s : Int) - 1) = -1) := ha3
      have A4 : Hid (Wq.atW (Wq.one k s n q r) (c : Int) ((s : Int) + (n : Int)) = -1) := ha4
      have A5 : Hid ((Wq.free (Wq.one k s n q r) (c : Int) : Int) = if (b && (k : Int) != 3) = true then 600 - (n : Int) else 600) := hfr
      have A6 : Hid (Wq.owner (Wq.one k s n q r) (c : Int) (s : Int) = if (b && (k : Int) == 1) = true then 1 else -1) := how
      clear ha1 ha2 ha3 ha4 hfr how hM hMr hcm hn hc
      go_wp2_with fail
      go_cut [17] from 56 to 63 (fun vb wx => vb = .bool b ∧ Hid (Below wr.heap.size wr wx))
      case first =>
        refine Lw.wp_region_quiet_below (by kernel_rfl) (by kernel_rfl) ?_
        repeat (first
          | go_big_quiet_skip
          | (go_big_quiet_want; go_big_quiet_op; go_big_quiet_on)
          | (go_big_quiet_want; go_big_quiet_op; apply Exists.intro; refine ⟨fun _ hb' => ?_, ?_⟩; (first
            | exact Lw.val_rfl _); go_big_quiet_on))
        refine wpQuiet_nil ?_
        intro wz hbz
        go_wp2_with fail
        go_meet
        case rel => exact ⟨rfl, hbz⟩
      case rest =>
        obtain ⟨rfl, HBz⟩ := hcut
        replace HX : Hid (Mb W wc p (Wq.one k s n q r) a') := HX.out.on HBz.out
        clear HBz v1 v2 v3 v4 e1 hb
        cases b
        · replace A5 : Hid ((Wq.free (Wq.one k s n q r) (c : Int) : Int) = 600) := A5
          replace A6 : Hid (Wq.owner (Wq.one k s n q r) (c : Int) (s : Int) = -1) := A6
          obtain ⟨y0, y1, y2, y3, y4, y5, y6, y7, y8, y9, y10⟩ := HX.out.row.mat
          go_wp2_with fail
          refine (HAt.out _ (c : Int) (s : Int) (-1) HX.out HVc.out (wfi (by omega)) A1.out).mono ?_
          rintro e v1 ⟨rfl, hb⟩
          replace HX : Hid (Mb W v1 p (Wq.one k s n q r) a') := HX.out.on hb
          clear hb y0 y1 y2 y3 y4 y5 y6 y7 y8 y9 y10
          obtain ⟨y0, y1, y2, y3, y4, y5, y6, y7, y8, y9, y10⟩ := HX.out.row.mat
          go_wp2_with fail
          refine (HAt.out _ (c : Int) ((s : Int) + (n : Int) - 1) (-1) HX.out HVc.out (wfi (by omega)) A2.out).mono ?_
          rintro e v2 ⟨rfl, hb⟩
          replace HX : Hid (Mb W v2 p (Wq.one k s n q r) a') := HX.out.on hb
          clear hb y0 y1 y2 y3 y4 y5 y6 y7 y8 y9 y10
          obtain ⟨y0, y1, y2, y3, y4, y5, y6, y7, y8, y9, y10⟩ := HX.out.row.mat
          go_wp2_with fail
          refine (HAt.out _ (c : Int) ((s : Int) - 1) (-1) HX.out HVc.out (wfi (by omega)) A3.out).mono ?_
          rintro e v3 ⟨rfl, hb⟩
          replace HX : Hid (Mb W v3 p (Wq.one k s n q r) a') := HX.out.on hb
          clear hb y0 y1 y2 y3 y4 y5 y6 y7 y8 y9 y10
          obtain ⟨y0, y1, y2, y3, y4, y5, y6, y7, y8, y9, y10⟩ := HX.out.row.mat
          go_wp2_with fail
          refine (HAt.out _ (c : Int) ((s : Int) + (n : Int)) (-1) HX.out HVc.out (wfi (by omega)) A4.out).mono ?_
          rintro e v4 ⟨rfl, hb⟩
          replace HX : Hid (Mb W v4 p (Wq.one k s n q r) a') := HX.out.on hb
          clear hb y0 y1 y2 y3 y4 y5 y6 y7 y8 y9 y10
          obtain ⟨y0, y1, y2, y3, y4, y5, y6, y7, y8, y9, y10⟩ := HX.out.row.mat
          go_wp2_with fail
          refine (HFr.out _ (c : Int) 600 HX.out HVc.out A5.out).mono ?_
          rintro e v5 ⟨rfl, hb⟩
          replace HX : Hid (Mb W v5 p (Wq.one k s n q r) a') := HX.out.on hb
          clear hb y0 y1 y2 y3 y4 y5 y6 y7 y8 y9 y10
          obtain ⟨y0, y1, y2, y3, y4, y5, y6, y7, y8, y9, y10⟩ := HX.out.row.mat
          go_wp2_with fail
          refine (HOw.out _ (c : Int) (s : Int) (-1) HX.out HVc.out (wfi (by omega)) A6.out).mono ?_
          rintro e v6 ⟨rfl, hb⟩
          replace HX : Hid (Mb W v6 p (Wq.one k s n q r) a') := HX.out.on hb
          clear hb y0 y1 y2 y3 y4 y5 y6 y7 y8 y9 y10
          go_wp2_with fail
          go_roundw
          case rel => exact ⟨c + 1, by omega, rfl, HX⟩
          case measure => simp only [intOf]; omega
        · have hkk : k = 1 ∨ k = 2 ∨ k = 3 := by have := HOk.out.hk; omega
          by_cases hk3 : k = 3
          · have k3b : ((k : Int) != 3) = false := by rw [hk3]; rfl
            have k1b : ((k : Int) == 1) = false := beq_eq_false_iff_ne.2 (by omega)
            replace A5 : Hid ((Wq.free (Wq.one k s n q r) (c : Int) : Int) = 600) := by have h := A5.out; rw [k3b] at h; exact h
            replace A6 : Hid (Wq.owner (Wq.one k s n q r) (c : Int) (s : Int) = -1) := by have h := A6.out; rw [k1b] at h; exact h
            clear hk3 hkk
            obtain ⟨y0, y1, y2, y3, y4, y5, y6, y7, y8, y9, y10⟩ := HX.out.row.mat
            go_wp2_with fail
            refine (HAt.out _ (c : Int) (s : Int) 0 HX.out HVc.out (wfi (by omega)) A1.out).mono ?_
            rintro e v1 ⟨rfl, hb⟩
            replace HX : Hid (Mb W v1 p (Wq.one k s n q r) a') := HX.out.on hb
            clear hb y0 y1 y2 y3 y4 y5 y6 y7 y8 y9 y10
            obtain ⟨y0, y1, y2, y3, y4, y5, y6, y7, y8, y9, y10⟩ := HX.out.row.mat
            go_wp2_with fail
            refine (HAt.out _ (c : Int) ((s : Int) + (n : Int) - 1) 0 HX.out HVc.out (wfi (by omega)) A2.out).mono ?_
            rintro e v2 ⟨rfl, hb⟩
            replace HX : Hid (Mb W v2 p (Wq.one k s n q r) a') := HX.out.on hb
            clear hb y0 y1 y2 y3 y4 y5 y6 y7 y8 y9 y10
            obtain ⟨y0, y1, y2, y3, y4, y5, y6, y7, y8, y9, y10⟩ := HX.out.row.mat
            go_wp2_with fail
            refine (HAt.out _ (c : Int) ((s : Int) - 1) (-1) HX.out HVc.out (wfi (by omega)) A3.out).mono ?_
            rintro e v3 ⟨rfl, hb⟩
            replace HX : Hid (Mb W v3 p (Wq.one k s n q r) a') := HX.out.on hb
            clear hb y0 y1 y2 y3 y4 y5 y6 y7 y8 y9 y10
            obtain ⟨y0, y1, y2, y3, y4, y5, y6, y7, y8, y9, y10⟩ := HX.out.row.mat
            go_wp2_with fail
            refine (HAt.out _ (c : Int) ((s : Int) + (n : Int)) (-1) HX.out HVc.out (wfi (by omega)) A4.out).mono ?_
            rintro e v4 ⟨rfl, hb⟩
            replace HX : Hid (Mb W v4 p (Wq.one k s n q r) a') := HX.out.on hb
            clear hb y0 y1 y2 y3 y4 y5 y6 y7 y8 y9 y10
            obtain ⟨y0, y1, y2, y3, y4, y5, y6, y7, y8, y9, y10⟩ := HX.out.row.mat
            go_wp2_with fail
            refine (HFr.out _ (c : Int) 600 HX.out HVc.out A5.out).mono ?_
            rintro e v5 ⟨rfl, hb⟩
            replace HX : Hid (Mb W v5 p (Wq.one k s n q r) a') := HX.out.on hb
            clear hb y0 y1 y2 y3 y4 y5 y6 y7 y8 y9 y10
            obtain ⟨y0, y1, y2, y3, y4, y5, y6, y7, y8, y9, y10⟩ := HX.out.row.mat
            go_wp2_with fail
            refine (HOw.out _ (c : Int) (s : Int) (-1) HX.out HVc.out (wfi (by omega)) A6.out).mono ?_
            rintro e v6 ⟨rfl, hb⟩
            replace HX : Hid (Mb W v6 p (Wq.one k s n q r) a') := HX.out.on hb
            clear hb y0 y1 y2 y3 y4 y5 y6 y7 y8 y9 y10
            go_wp2_with fail
            go_roundw
            case rel => exact ⟨c + 1, by omega, rfl, HX⟩
            case measure => simp only [intOf]; omega
          · have k3b : ((k : Int) != 3) = true := bne_iff_ne.2 (by omega)
            by_cases hk1 : k = 1
            · have k1b : ((k : Int) == 1) = true := by rw [hk1]; rfl
              replace A5 : Hid ((Wq.free (Wq.one k s n q r) (c : Int) : Int) = 600 - (n : Int)) := by have h := A5.out; rw [k3b] at h; exact h
              replace A6 : Hid (Wq.owner (Wq.one k s n q r) (c : Int) (s : Int) = 1) := by have h := A6.out; rw [k1b] at h; exact h
              clear hk1 hk3 hkk
              obtain ⟨y0, y1, y2, y3, y4, y5, y6, y7, y8, y9, y10⟩ := HX.out.row.mat
              go_wp2_with fail
              refine (HAt.out _ (c : Int) (s : Int) 0 HX.out HVc.out (wfi (by omega)) A1.out).mono ?_
              rintro e v1 ⟨rfl, hb⟩
              replace HX : Hid (Mb W v1 p (Wq.one k s n q r) a') := HX.out.on hb
              clear hb y0 y1 y2 y3 y4 y5 y6 y7 y8 y9 y10
              obtain ⟨y0, y1, y2, y3, y4, y5, y6, y7, y8, y9, y10⟩ := HX.out.row.mat
              go_wp2_with fail
              refine (HAt.out _ (c : Int) ((s : Int) + (n : Int) - 1) 0 HX.out HVc.out (wfi (by omega)) A2.out).mono ?_
              rintro e v2 ⟨rfl, hb⟩
              replace HX : Hid (Mb W v2 p (Wq.one k s n q r) a') := HX.out.on hb
              clear hb y0 y1 y2 y3 y4 y5 y6 y7 y8 y9 y10
              obtain ⟨y0, y1, y2, y3, y4, y5, y6, y7, y8, y9, y10⟩ := HX.out.row.mat
              go_wp2_with fail
              refine (HAt.out _ (c : Int) ((s : Int) - 1) (-1) HX.out HVc.out (wfi (by omega)) A3.out).mono ?_
              rintro e v3 ⟨rfl, hb⟩
              replace HX : Hid (Mb W v3 p (Wq.one k s n q r) a') := HX.out.on hb
              clear hb y0 y1 y2 y3 y4 y5 y6 y7 y8 y9 y10
              obtain ⟨y0, y1, y2, y3, y4, y5, y6, y7, y8, y9, y10⟩ := HX.out.row.mat
              go_wp2_with fail
              refine (HAt.out _ (c : Int) ((s : Int) + (n : Int)) (-1) HX.out HVc.out (wfi (by omega)) A4.out).mono ?_
              rintro e v4 ⟨rfl, hb⟩
              replace HX : Hid (Mb W v4 p (Wq.one k s n q r) a') := HX.out.on hb
              clear hb y0 y1 y2 y3 y4 y5 y6 y7 y8 y9 y10
              obtain ⟨y0, y1, y2, y3, y4, y5, y6, y7, y8, y9, y10⟩ := HX.out.row.mat
              go_wp2_with fail
              refine (HFr.out _ (c : Int) (600 - (n : Int)) HX.out HVc.out A5.out).mono ?_
              rintro e v5 ⟨rfl, hb⟩
              replace HX : Hid (Mb W v5 p (Wq.one k s n q r) a') := HX.out.on hb
              clear hb y0 y1 y2 y3 y4 y5 y6 y7 y8 y9 y10
              obtain ⟨y0, y1, y2, y3, y4, y5, y6, y7, y8, y9, y10⟩ := HX.out.row.mat
              go_wp2_with fail
              refine (HOw.out _ (c : Int) (s : Int) 1 HX.out HVc.out (wfi (by omega)) A6.out).mono ?_
              rintro e v6 ⟨rfl, hb⟩
              replace HX : Hid (Mb W v6 p (Wq.one k s n q r) a') := HX.out.on hb
              clear hb y0 y1 y2 y3 y4 y5 y6 y7 y8 y9 y10
              go_wp2_with fail
              go_roundw
              case rel => exact ⟨c + 1, by omega, rfl, HX⟩
              case measure => simp only [intOf]; omega
            · have k1b : ((k : Int) == 1) = false := beq_eq_false_iff_ne.2 (by omega)
              replace A5 : Hid ((Wq.free (Wq.one k s n q r) (c : Int) : Int) = 600 - (n : Int)) := by have h := A5.out; rw [k3b] at h; exact h
              replace A6 : Hid (Wq.owner (Wq.one k s n q r) (c : Int) (s : Int) = -1) := by have h := A6.out; rw [k1b] at h; exact h
              clear hk1 hk3 hkk
              obtain ⟨y0, y1, y2, y3, y4, y5, y6, y7, y8, y9, y10⟩ := HX.out.row.mat
              go_wp2_with fail
              refine (HAt.out _ (c : Int) (s : Int) 0 HX.out HVc.out (wfi (by omega)) A1.out).mono ?_
              rintro e v1 ⟨rfl, hb⟩
              replace HX : Hid (Mb W v1 p (Wq.one k s n q r) a') := HX.out.on hb
              clear hb y0 y1 y2 y3 y4 y5 y6 y7 y8 y9 y10
              obtain ⟨y0, y1, y2, y3, y4, y5, y6, y7, y8, y9, y10⟩ := HX.out.row.mat
              go_wp2_with fail
              refine (HAt.out _ (c : Int) ((s : Int) + (n : Int) - 1) 0 HX.out HVc.out (wfi (by omega)) A2.out).mono ?_
              rintro e v2 ⟨rfl, hb⟩
              replace HX : Hid (Mb W v2 p (Wq.one k s n q r) a') := HX.out.on hb
              clear hb y0 y1 y2 y3 y4 y5 y6 y7 y8 y9 y10
              obtain ⟨y0, y1, y2, y3, y4, y5, y6, y7, y8, y9, y10⟩ := HX.out.row.mat
              go_wp2_with fail
              refine (HAt.out _ (c : Int) ((s : Int) - 1) (-1) HX.out HVc.out (wfi (by omega)) A3.out).mono ?_
              rintro e v3 ⟨rfl, hb⟩
              replace HX : Hid (Mb W v3 p (Wq.one k s n q r) a') := HX.out.on hb
              clear hb y0 y1 y2 y3 y4 y5 y6 y7 y8 y9 y10
              obtain ⟨y0, y1, y2, y3, y4, y5, y6, y7, y8, y9, y10⟩ := HX.out.row.mat
              go_wp2_with fail
              refine (HAt.out _ (c : Int) ((s : Int) + (n : Int)) (-1) HX.out HVc.out (wfi (by omega)) A4.out).mono ?_
              rintro e v4 ⟨rfl, hb⟩
              replace HX : Hid (Mb W v4 p (Wq.one k s n q r) a') := HX.out.on hb
              clear hb y0 y1 y2 y3 y4 y5 y6 y7 y8 y9 y10
              obtain ⟨y0, y1, y2, y3, y4, y5, y6, y7, y8, y9, y10⟩ := HX.out.row.mat
              go_wp2_with fail
              refine (HFr.out _ (c : Int) (600 - (n : Int)) HX.out HVc.out A5.out).mono ?_
              rintro e v5 ⟨rfl, hb⟩
              replace HX : Hid (Mb W v5 p (Wq.one k s n q r) a') := HX.out.on hb
              clear hb y0 y1 y2 y3 y4 y5 y6 y7 y8 y9 y10
              obtain ⟨y0, y1, y2, y3, y4, y5, y6, y7, y8, y9, y10⟩ := HX.out.row.mat
              go_wp2_with fail
              refine (HOw.out _ (c : Int) (s : Int) (-1) HX.out HVc.out (wfi (by omega)) A6.out).mono ?_
              rintro e v6 ⟨rfl, hb⟩
              replace HX : Hid (Mb W v6 p (Wq.one k s n q r) a') := HX.out.on hb
              clear hb y0 y1 y2 y3 y4 y5 y6 y7 y8 y9 y10
              go_wp2_with fail
              go_roundw
              case rel => exact ⟨c + 1, by omega, rfl, HX⟩
              case measure => simp only [intOf]; omega
    · obtain rfl : c = 8 := by omega
      have ci : ¬ (((8 : Nat) : Int) < 8) := by omega
      obtain ⟨y0, y1, y2, y3, y4, y5, y6, y7, y8, y9, y10⟩ := HX.out.row.mat
      go_wp2_with fail
      refine (HIs.out _ HX.out).mono ?_
      rintro e w9 ⟨rfl, hb⟩
      replace HX : Hid (Mb W w9 p (Wq.one k s n q r) a') := HX.out.on hb
      clear hb y0 y1 y2 y3 y4 y5 y6 y7 y8 y9 y10
      go_wp2
      go_ret
      exact ⟨rfl, HX.out.bel⟩
end Go.Proofs.YtmfehobpbpkcaaaDoor.windowEdges
