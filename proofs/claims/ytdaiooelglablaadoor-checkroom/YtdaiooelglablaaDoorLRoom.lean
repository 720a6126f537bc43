/- CheckRoom: a window is long enough from a Step on, and not a unit below; so is its beginning; for every three numbers; no condition. -/
import Derived.Test.YtdaiooelglablaaDoorL6
import Derived.ProofKit
import Derived.OpenShut
namespace Go.Proofs.YtdaiooelglablaaDoor.checkRoom
open Go.ChangeShapes Go.WideShapes Go.ChangeAt Go.RowKit
set_option linter.unusedVariables false
variable {Q : World → Prop}
theorem natU16 {x : Int} (h : (Lit.int .u16 x).wf = true) : ∃ n : Nat, x = (n : Int) ∧ n < 65536 := by
  obtain ⟨h1, h2⟩ := bounds_u16 h
  obtain ⟨n, rfl⟩ := Int.eq_ofNat_of_zero_le h1
  exact ⟨n, rfl, by omega⟩
theorem natU8 {x : Int} (h : (Lit.int .u8 x).wf = true) : ∃ n : Nat, x = (n : Int) ∧ n < 256 := by
  obtain ⟨h1, h2⟩ := bounds_u8 h
  obtain ⟨n, rfl⟩ := Int.eq_ofNat_of_zero_le h1
  exact ⟨n, rfl, by omega⟩
def one (k s n : Int) : Mx.M := { Mx.l14 with windows := [⟨k, s, s + n, 0, 1, 0⟩] }
theorem one_is {k s n : Int} (hk : 1 ≤ k ∧ k ≤ 3) (hs : 1 ≤ s ∧ s ≤ 60) (hn : 1 ≤ n ∧ n ≤ 60) : Mx.is (one k s n) = true := by
  simp [one, Mx.is, Mx.scal, Mx.lens, Mx.within, Mx.power, Mx.l14, Mx.msgOk, Mx.winOk]
  omega
theorem one_step {k s n : Int} (h : Mx.is (one k s n) = true) : Lq.step (one k s n) = 38 := by unfold Lq.step; rw [if_pos h]; show Lq.units 16 140 + 2 = 38; decide
theorem twice_of {m n : Mx.M} (h1 : m.masters = n.masters) (h2 : m.messages = n.messages) (h3 : m.ref = n.ref) : Lq.twice m = Lq.twice n := by
  unfold Lq.twice Lq.eRank Lq.eFind Mx.rank Mx.find
  simp only [h1, h2, h3]
theorem one_check {k s n : Int} (h : Mx.is (one k s n) = true) : Lq.check (one k s n) = (0, if s < 38 ∨ k ≠ 3 ∧ n < 38 then 144 else 0) := by
  have hst := one_step h
  unfold Lq.check
  rw [h, if_neg (by simp), hst, if_neg (show ¬ (one k s n).length < 38 by show ¬ (400 : Int) < 38; decide)]
  have e1 : Lq.scan (Lq.eMaster (one k s n)) (one k s n).masters.length 0 = (0, 0) := rfl
  have e2 : Lq.scan (Lq.eOwner (one k s n)) (one k s n).messages.length 0 = (0, 0) := rfl
  have e3 : Lq.twice (one k s n) = (0, 0) := (twice_of (n := Mx.l14) rfl rfl rfl).trans (by decide)
  have ht : Lq.tight (one k s n) ⟨k, s, s + n, 0, 1, 0⟩ = decide (s < 38 ∨ k ≠ 3 ∧ n < 38) := by
    unfold Lq.tight
    rw [hst]
    by_cases c1 : s < 38
    · simp [c1]
    · by_cases c2 : k = 3
      · simp [c1, c2]
      · have : s + n - s = n := by omega
        simp [c1, c2, this]
  have e4 : Lq.eWin (one k s n) 0 = if s < 38 ∨ k ≠ 3 ∧ n < 38 then 144 else 0 := by
    have hno : Lq.noMsg (one k s n) ⟨k, s, s + n, 0, 1, 0⟩ = false := by
      unfold Lq.noMsg
      show (k == 1 && false) = false
      rw [Bool.and_false]
    show (if Lq.noMsg (one k s n) ⟨k, s, s + n, 0, 1, 0⟩ then (145 : Int) else if Lq.tight (one k s n) ⟨k, s, s + n, 0, 1, 0⟩ then 144 else if Lq.meets (one k s n) 0 then 143 else 0) = _
    rw [hno, ht, show Lq.meets (one k s n) 0 = false from rfl]
    simp
  rw [e1, e2, e3]
  show Lq.scan (Lq.eWin (one k s n)) 1 0 = _
  rw [Lq.scan, e4]
  by_cases hc : s < 38 ∨ k ≠ 3 ∧ n < 38
  · rw [if_pos hc, if_neg (by decide)]; rfl
  · rw [if_neg hc, if_pos rfl]; rfl
set_option maxRecDepth 100000 in
set_option maxHeartbeats 16000000 in
theorem walkA (hQ : ∀ w w', Q w → Below w.heap.size w w' → Q w') (S : CheckSpec Q) (c0 : Int) (w0 : (Lit.int .u8 c0).wf = true) (c1 : Int) (w1 : (Lit.int .u8 c1).wf = true) (c2 : Int) (w2 : (Lit.int .u8 c2).wf = true) (W : World) (hW : Q W) :
    Calls Tryd.prog 8 #[.int .u8 c0, .int .u8 c1, .int .u8 c2] W fun e w' => e = .returned (.bool true) ∧ Below W.heap.size W w' := by
  have HQ : Hid (∀ w, Below W.heap.size W w → Q w) := fun w hb => hQ W w hW hb
  have HK : Hid (∀ w, Below W.heap.size W w → Calls Tryd.prog 9 #[] w fun e w' => e = .returned (.bool true) ∧ Below w.heap.size w w') := fun w hb => known14_any hQ S w (HQ.out _ hb)
  obtain ⟨c0, rfl, b0⟩ := natU8 w0
  obtain ⟨c1, rfl, b1⟩ := natU8 w1
  obtain ⟨c2, rfl, b2⟩ := natU8 w2
  have hA : Hid (Below W.heap.size W W) := Below.refl _ _
  obtain ⟨k, hk⟩ : ∃ k : Nat, c2 % 3 + 1 = k := ⟨_, rfl⟩
  obtain ⟨s, hs⟩ : ∃ s : Nat, c0 % 60 + 1 = s := ⟨_, rfl⟩
  obtain ⟨n, hn⟩ : ∃ n : Nat, c1 % 60 + 1 = n := ⟨_, rfl⟩
  have ik : (c2 : Int) % 3 + 1 = (k : Int) := by omega
  have is : (c0 : Int) % 60 + 1 = (s : Int) := by omega
  have i_n : (c1 : Int) % 60 + 1 = (n : Int) := by omega
  have hi := one_is (k := (k : Int)) (s := (s : Int)) (n := (n : Int)) (by omega) (by omega) (by omega)
  have hck := one_check hi
  have hst := one_step hi
  obtain ⟨E, hE⟩ : ∃ E : Int, (if (s : Int) < 38 ∨ (k : Int) ≠ 3 ∧ (n : Int) < 38 then 144 else 0) = E := ⟨_, rfl⟩
  rw [hE] at hck
  have HE : Hid ((if (s : Int) < 38 ∨ (k : Int) ≠ 3 ∧ (n : Int) < 38 then 144 else 0) = E) := hE
  clear hE
  have HCk : Hid (∀ (w : World) (p : Nat) (a : Ma), Mb W w p (one k s n) a → Calls Tryd.prog 11 #[mV (one k s n) a] w fun e w' => e = .returned (.tuple #[.int .i64 0, .int .i64 E]) ∧ Below w.heap.size w w') := fun w p a h => by
    have := S.check w _ a (HQ.out _ h.bel) h.mem (Mx.small_is hi) (Mx.wf_is hi)
    rw [hck] at this
    exact this
  have HSt : Hid (∀ (w : World) (p : Nat) (a : Ma), Mb W w p (one k s n) a → Calls Tryd.prog 17 #[mV (one k s n) a] w fun e w' => e = .returned (.int .i64 38) ∧ Below w.heap.size w w') := fun w p a h => by
    have := S.step w _ a (HQ.out _ h.bel) h.mem (Mx.small_is hi) (Mx.wf_is hi)
    rw [hst] at this
    exact this
  have s1 : (s : Int) ≤ 60 := by omega
  have n1 : (n : Int) ≤ 60 := by omega
  have k1 : (k : Int) ≤ 3 := by omega
  clear hQ hW w0 w1 w2 hi hck hst
  go_enter Tryd.func8, Tryd.ntmps8
  go_wp2_with fail
  refine (HK.out _ hA.out).mono ?_
  rintro e z1 ⟨rfl, hb⟩
  replace hA : Hid (Below W.heap.size W z1) := hA.out.trans (hb.mono hA.out.size)
  clear hb HK
  go_wp2_with fail
  refine (least14_any z1).mono ?_
  rintro e z1b ⟨a, rfl, hO, hb⟩
  have HX : Hid (Mb W (z1b.alloc (.cells #[.int .i64 Mx.l14.level, .int .i64 Mx.l14.nodes, .int .i64 Mx.l14.cycles, .int .i64 Mx.l14.length, .int .i64 Mx.l14.enable, .int .i64 Mx.l14.unit, .int .i64 Mx.l14.init, .int .u32 (Mx.l14.ref : Int), .slice a.s1 Mx.l14.masters.length a.c1, .slice a.s2 Mx.l14.messages.length a.c2, .slice a.s3 Mx.l14.windows.length a.c3] 27)) z1b.heap.size Mx.l14 a) := Mb.of (hO.mono hA.out.size) (hA.out.trans (hb.mono hA.out.size))
  clear hO hb hA
  dsimp only [mV, mCs]
  go_upto_region 4 with fail
  generalize z1b.alloc (.cells #[.int .i64 Mx.l14.level, .int .i64 Mx.l14.nodes, .int .i64 Mx.l14.cycles, .int .i64 Mx.l14.length, .int .i64 Mx.l14.enable, .int .i64 Mx.l14.unit, .int .i64 Mx.l14.init, .int .u32 (Mx.l14.ref : Int), .slice a.s1 Mx.l14.masters.length a.c1, .slice a.s2 Mx.l14.messages.length a.c2, .slice a.s3 Mx.l14.windows.length a.c3] 27) = z2 at HX ⊢
  generalize z1b.heap.size = p at HX ⊢
  have qk : ∀ o, (z2.alloc o).cell? ⟨p, 10, none⟩ = some (.slice a.s3 0 a.c3) := fun o => (HX.out.al o).row.c 10 _ rfl
  have fk : ∀ o, (z2.alloc o).frozen? ⟨p, 10, none⟩ = false := fun o => (HX.out.al o).row.f 10
  replace HX : Hid (Mb W ((z2.alloc (.cells #[.int .i64 (k : Int), .int .i64 (s : Int), .int .i64 ((s : Int) + (n : Int)), .int .i64 0, .int .i64 1, .int .i64 0] 40)).setCell ⟨p, 10, none⟩ (.slice (some ⟨z2.heap.size, 0, none⟩) 1 1)) p (one k s n) { a with s3 := some ⟨z2.heap.size, 0, none⟩, c3 := 1 }) := (HX.out.al _).put3 (xs := [⟨k, s, s + n, 0, 1, 0⟩]) (Mb.ol_lit 40 6 W.heap.size z2 1 _ rfl HX.out.bel.size (by decide)) rfl
  go_upto_region 7 with fail
  generalize (z2.alloc (.cells #[.int .i64 (k : Int), .int .i64 (s : Int), .int .i64 ((s : Int) + (n : Int)), .int .i64 0, .int .i64 1, .int .i64 0] 40)).setCell ⟨p, 10, none⟩ (.slice (some ⟨z2.heap.size, 0, none⟩) 1 1) = z3 at HX ⊢
  generalize z2.heap.size = gW at HX ⊢
  clear qk fk b0 b1 b2 hk hs hn
  obtain ⟨y0, y1, y2, y3, y4, y5, y6, y7, y8, y9, y10⟩ := HX.out.row.mat
  go_wp2_with fail
  refine (HCk.out _ p _ HX.out).mono ?_
  rintro e z4 ⟨rfl, hb⟩
  replace HX : Hid (Mb W z4 p (one k s n) { a with s3 := some ⟨gW, 0, none⟩, c3 := 1 }) := HX.out.on hb
  clear y0 y1 y10 y2 y3 y4 y5 y6 y7 y8 y9
  clear hb
  obtain ⟨y0, y1, y2, y3, y4, y5, y6, y7, y8, y9, y10⟩ := HX.out.row.mat
  go_wp2_with fail
  refine (HSt.out _ p _ HX.out).mono ?_
  rintro e z5 ⟨rfl, hb⟩
  replace HX : Hid (Mb W z5 p (one k s n) { a with s3 := some ⟨gW, 0, none⟩, c3 := 1 }) := HX.out.on hb
  clear y0 y1 y10 y2 y3 y4 y5 y6 y7 y8 y9
  clear hb
  by_cases c1 : (s : Int) < 38
  · obtain rfl : (144 : Int) = E := by rw [← HE.out, if_pos (Or.inl c1)]
    go_wp2
    go_ret
    exact ⟨rfl, HX.out.bel⟩
  · by_cases c2 : (k : Int) = 3
    · obtain rfl : (0 : Int) = E := by rw [← HE.out, if_neg (by intro h; rcases h with h | h; exact c1 h; exact h.1 c2)]
      have c2' : ((k : Int) != 3) = false := by simpa [bne] using c2
      go_wp2
      go_ret
      exact ⟨rfl, HX.out.bel⟩
    · have c2' : ((k : Int) != 3) = true := by simpa [bne] using c2
      by_cases c3 : (n : Int) < 38
      · obtain rfl : (144 : Int) = E := by rw [← HE.out, if_pos (Or.inr ⟨c2, c3⟩)]
        go_wp2
        go_ret
        exact ⟨rfl, HX.out.bel⟩
      · obtain rfl : (0 : Int) = E := by rw [← HE.out, if_neg (by intro h; rcases h with h | h; exact c1 h; exact c3 h.2)]
        go_wp2
        go_ret
        exact ⟨rfl, HX.out.bel⟩
end Go.Proofs.YtdaiooelglablaaDoor.checkRoom
