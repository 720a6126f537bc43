/- PlanShares: of every matrix of few entries: all nodes together send each exclusive window's message once, all others look for it; each has one watch, each master two beats (others are let by); no condition. -/
import Derived.Test.YtlfhneiddfgoaaaDoorYg
import Derived.Test.YtlfhneiddfgoaaaDoorYh
import Derived.Test.YtlfhneiddfgoaaaDoorYr
import Derived.Test.YtlfhneiddfgoaaaDoorYt
import Derived.Deep.CutBlock
import Derived.ProofKit
import Derived.OpenShut
namespace Go.Proofs.YtlfhneiddfgoaaaDoor.planShares
open Go.ChangeShapes Go.WideShapes Go.ChangeAt Go.RowKit
set_option linter.unusedVariables false
variable {Q : World → Prop}
theorem take_count {α : Type} {l : List α} {p : α → Bool} {k : Nat} {x : α} (hx : l[k]? = some x) : (l.take (k + 1)).countP p = (l.take k).countP p + (if p x then 1 else 0) := by
  rw [List.take_add_one, hx, List.countP_append]
  simp [List.countP_cons]
/-- Six numbers of one's own, the first of them nothing; what is older than V is as it was. -/
structure Nb (V w : World) (q : Nat) (n1 n2 n3 n4 n5 : Nat) : Prop where
  bel : Below V.heap.size V w
  le : V.heap.size ≤ q
  row : RowT 42 w q #[.int .i64 0, .int .i64 (n1 : Int), .int .i64 (n2 : Int), .int .i64 (n3 : Int), .int .i64 (n4 : Int), .int .i64 (n5 : Int)]
theorem Nb.on {V w w' : World} {q n1 n2 n3 n4 n5 : Nat} (h : Nb V w q n1 n2 n3 n4 n5) (hb : Below w.heap.size w w') : Nb V w' q n1 n2 n3 n4 n5 := ⟨h.bel.trans (hb.mono h.bel.size), h.le, h.row.on hb⟩
/-- A list of triggers, each of some kind, does not lie there. -/
theorem Nb.ne {V w : World} {q n1 n2 n3 n4 n5 : Nat} (h : Nb V w q n1 n2 n3 n4 n5) {s : Option Addr} {c : Nat} {l : List Yq.Tr} (hl : LI w s c l.length (l.flatMap tC)) (hk : ∀ t ∈ l, 1 ≤ t.kind) : ∀ a, 0 < l.length → s = some a → ¬ a.block = q := fun a h0 hs e => by
  obtain ⟨t, ht⟩ : ∃ t, l[0]? = some t := ⟨_, List.getElem?_eq_getElem h0⟩
  obtain ⟨g, o, hs2, _, hc⟩ := hl.at (sz := 6) (fun _ => rfl) 0 t ht
  rw [hs] at hs2
  injection hs2 with hs2
  subst hs2
  dsimp only at e
  subst e
  have h5 := hc 5 _ rfl
  have h1 := hc 0 _ rfl
  rw [cell_of_row _ _ _ _ _ _ h.row] at h5 h1
  have ho : o = 0 := by
    cases o with
    | zero => rfl
    | succ o =>
      rw [Array.getElem?_eq_none (by simp)] at h5
      cases h5
  subst ho
  have hp := hk t (List.mem_of_getElem? ht)
  simp at h1
  omega
theorem Nb.put1 {V w : World} {q n1 n2 n3 n4 n5 : Nat} (h : Nb V w q n1 n2 n3 n4 n5) : Nb V (w.setCell ⟨q, 1, none⟩ (.int .i64 ((n1 : Int) + 1))) q (n1 + 1) n2 n3 n4 n5 := by
  have hk : Kept (fun j => j = q) w (w.setCell ⟨q, 1, none⟩ (.int .i64 ((n1 : Int) + 1))) := Kept.set _ _ _ rfl
  refine ⟨h.bel.trans (hk.below (fun g hg => by rw [hg]; exact h.le) h.bel.size), h.le, ?_⟩
  have := h.row.set 1 (.int .i64 ((n1 : Int) + 1))
  simpa using this
theorem Nb.put2 {V w : World} {q n1 n2 n3 n4 n5 : Nat} (h : Nb V w q n1 n2 n3 n4 n5) : Nb V (w.setCell ⟨q, 2, none⟩ (.int .i64 ((n2 : Int) + 1))) q n1 (n2 + 1) n3 n4 n5 := by
  have hk : Kept (fun j => j = q) w (w.setCell ⟨q, 2, none⟩ (.int .i64 ((n2 : Int) + 1))) := Kept.set _ _ _ rfl
  refine ⟨h.bel.trans (hk.below (fun g hg => by rw [hg]; exact h.le) h.bel.size), h.le, ?_⟩
  have := h.row.set 2 (.int .i64 ((n2 : Int) + 1))
  simpa using this
theorem Nb.put3 {V w : World} {q n1 n2 n3 n4 n5 : Nat} (h : Nb V w q n1 n2 n3 n4 n5) : Nb V (w.setCell ⟨q, 3, none⟩ (.int .i64 ((n3 : Int) + 1))) q n1 n2 (n3 + 1) n4 n5 := by
  have hk : Kept (fun j => j = q) w (w.setCell ⟨q, 3, none⟩ (.int .i64 ((n3 : Int) + 1))) := Kept.set _ _ _ rfl
  refine ⟨h.bel.trans (hk.below (fun g hg => by rw [hg]; exact h.le) h.bel.size), h.le, ?_⟩
  have := h.row.set 3 (.int .i64 ((n3 : Int) + 1))
  simpa using this
theorem Nb.put4 {V w : World} {q n1 n2 n3 n4 n5 : Nat} (h : Nb V w q n1 n2 n3 n4 n5) : Nb V (w.setCell ⟨q, 4, none⟩ (.int .i64 ((n4 : Int) + 1))) q n1 n2 n3 (n4 + 1) n5 := by
  have hk : Kept (fun j => j = q) w (w.setCell ⟨q, 4, none⟩ (.int .i64 ((n4 : Int) + 1))) := Kept.set _ _ _ rfl
  refine ⟨h.bel.trans (hk.below (fun g hg => by rw [hg]; exact h.le) h.bel.size), h.le, ?_⟩
  have := h.row.set 4 (.int .i64 ((n4 : Int) + 1))
  simpa using this
theorem Nb.put5 {V w : World} {q n1 n2 n3 n4 n5 : Nat} (h : Nb V w q n1 n2 n3 n4 n5) : Nb V (w.setCell ⟨q, 5, none⟩ (.int .i64 ((n5 : Int) + 1))) q n1 n2 n3 n4 (n5 + 1) := by
  have hk : Kept (fun j => j = q) w (w.setCell ⟨q, 5, none⟩ (.int .i64 ((n5 : Int) + 1))) := Kept.set _ _ _ rfl
  refine ⟨h.bel.trans (hk.below (fun g hg => by rw [hg]; exact h.le) h.bel.size), h.le, ?_⟩
  have := h.row.set 5 (.int .i64 ((n5 : Int) + 1))
  simpa using this
set_option maxRecDepth 100000 in
set_option maxHeartbeats 8000000 in
theorem walkA (hQ : ∀ w w', Q w → Below w.heap.size w w' → Q w') (S : PlanSpec Q) (m : Mx.M) (a : Ma) {W0 : World} (hm : MIn W0 m a) (hwf : Mx.Wf m) (W : World) (hw0 : W = W0) (hW : Q W) :
    Calls Tryd.prog 5 #[mV m a] W fun e w' => e = .returned (.bool true) ∧ Below W.heap.size W w' := by
  subst hw0
  have HQ : Hid (∀ w, Below W.heap.size W w → Q w) := fun w hb => hQ W w hW hb
  have HK : Hid (∀ w, Below W.heap.size W w → Calls Tryd.prog 9 #[] w fun e w' => e = .returned (.bool true) ∧ Below w.heap.size w w') := fun w hb => known15_any hQ S w (HQ.out _ hb)
  have HPl : Hid (∀ w who, Bx W w W.heap.size m a → Mx.Small m → (Lit.int .i64 who).wf = true → Calls Tryd.prog 12 #[mV m a, .int .i64 who] w fun e w' => ∃ s c n, n = (Yq.plan m who).length ∧ e = .returned (.slice s n c) ∧ LI w' s c n ((Yq.plan m who).flatMap tC) ∧ Below w.heap.size w w') := fun w who h hs hw => S.plan w m a who (HQ.out _ h.below) h.mem hs hwf hw
  have HIs : Hid (∀ w, Bx W w W.heap.size m a → Mx.Small m → Calls Tryd.prog 20 #[mV m a] w fun e w' => e = .returned (.bool (Mx.is m)) ∧ Below w.heap.size w w') := fun w h hs => ris_any w m a h.mem hs
  have HCk : Hid (∀ w, Bx W w W.heap.size m a → Mx.Small m → Calls Tryd.prog 21 #[mV m a] w fun e w' => e = .returned (.tuple #[.int .i64 (Lq.check m).1, .int .i64 (Lq.check m).2]) ∧ Below w.heap.size w w') := fun w h hs => rcheck_any w m a h.mem hs hwf
  have HX : Hid (Bx W (W.alloc (.cells (mCs m a) 27)) W.heap.size m a) := Bx.mk' hm
  clear hm hQ hW
  go_enter Tryd.func5, Tryd.ntmps5
  clear hwf
  go_wp2_with fail
  refine (HK.out _ HX.out.below).mono ?_
  rintro e w1 ⟨rfl, hb⟩
  replace HX : Hid (Bx W w1 W.heap.size m a) := HX.out.on hb
  clear hb HK
  obtain ⟨y0, y1, y2, y3, y4, y5, y6, y7, y8, y9, y10⟩ := HX.out.row.mat
  go_wp2_with fail
  refine (few15_any w1 m a).mono ?_
  rintro e w2 ⟨rfl, hb⟩
  replace HX : Hid (Bx W w2 W.heap.size m a) := HX.out.on hb
  clear y0 y1 y10 y2 y3 y4 y5 y6 y7 y8 y9
  clear hb
  cases hfw : Mx.few m
  · go_wp2
    go_ret
    exact ⟨rfl, HX.out.below⟩
  have HS : Hid (Mx.Small m) := Mx.few_small hfw
  clear hfw
  obtain ⟨y0, y1, y2, y3, y4, y5, y6, y7, y8, y9, y10⟩ := HX.out.row.mat
  go_wp2_with fail
  refine (HIs.out _ HX.out HS.out).mono ?_
  rintro e w3 ⟨rfl, hb⟩
  replace HX : Hid (Bx W w3 W.heap.size m a) := HX.out.on hb
  clear y0 y1 y10 y2 y3 y4 y5 y6 y7 y8 y9
  clear hb
  cases hi : Mx.is m
  · go_wp2
    go_ret
    exact ⟨rfl, HX.out.below⟩
  have HI : Hid (Mx.is m = true) := hi
  clear hi
  obtain ⟨y0, y1, y2, y3, y4, y5, y6, y7, y8, y9, y10⟩ := HX.out.row.mat
  go_wp2_with fail
  refine (HCk.out _ HX.out HS.out).mono ?_
  rintro e w4 ⟨rfl, hb⟩
  replace HX : Hid (Bx W w4 W.heap.size m a) := HX.out.on hb
  clear y0 y1 y10 y2 y3 y4 y5 y6 y7 y8 y9
  clear hb HCk HIs
  obtain ⟨ck, hck⟩ : ∃ z, (Lq.check m).2 = z := ⟨_, rfl⟩
  have HCk : Hid ((Lq.check m).2 = ck) := hck
  rw [hck]
  clear hck
  generalize (Lq.check m).1 = ck1
  by_cases hc0 : ck = 0
  rotate_left
  · have hcb : (ck != 0) = true := bne_iff_ne.2 hc0
    have hpl : Yq.plan m 0 = [] := by unfold Yq.plan; rw [HCk.out, if_neg hc0]
    have HPz := HPl.out _ 0 HX.out HS.out (wfi (by omega))
    rw [hpl] at HPz
    obtain ⟨y0, y1, y2, y3, y4, y5, y6, y7, y8, y9, y10⟩ := HX.out.row.mat
    clear HPl hpl hc0
    go_wp2_with fail
    refine HPz.mono ?_
    rintro e w5 ⟨s1, c1, n1, hn, rfl, hl, hb⟩
    obtain rfl : n1 = 0 := hn
    replace HX : Hid (Bx W w5 W.heap.size m a) := HX.out.on hb
    clear hl hb HPz y0 y1 y2 y3 y4 y5 y6 y7 y8 y9 y10
    go_wp2
    go_ret
    exact ⟨rfl, HX.out.below⟩
  subst hc0
  have HP : Hid (Lq.Passes m) := Lq.passes_of HCk.out
  clear HCk
  have HLw : Hid (m.windows.length ≤ 16) := Yq.wins16 HP.out.is
  have hn3 : (m.windows.length : Int) ≤ 16 := by have := HLw.out; omega
  go_upto_block 0 with fail
  go_wp2_with fail
  obtain ⟨y0, y1, y2, y3, y4, y5, y6, y7, y8, y9, y10⟩ := HX.out.row.mat
  go_loopw [7, 5, 6] (fun vi vx va wr => ∃ (k X A : Nat), k ≤ m.windows.length ∧ X ≤ k ∧ A ≤ k ∧ vi = .int .i64 (k : Int) ∧ vx = .int .i64 (X : Int) ∧ va = .int .i64 (A : Int) ∧ wr = w4 ∧ Hid (X = (m.windows.take k).countP (fun x => x.kind == 1)) ∧ Hid (A = (m.windows.take k).countP (fun x => x.kind == 2))) (fun vi _ _ _ => m.windows.length - (intOf vi).toNat)
  case atStart => exact ⟨0, 0, 0, Nat.zero_le _, Nat.zero_le _, Nat.zero_le _, rfl, rfl, rfl, rfl, rfl, rfl⟩
  case round =>
    obtain ⟨k, X, A, hk, hXk, hAk, rfl, rfl, rfl, rfl, HXc, HAc⟩ := hrel
    by_cases hkl : k < m.windows.length
    · have ki : (k : Int) < (m.windows.length : Int) := by omega
      have kb : (k : Int) < 16 := by have := HLw.out; omega
      have xb : (X : Int) < 16 := by omega
      have ab : (A : Int) < 16 := by omega
      obtain ⟨x, hx⟩ : ∃ x, m.windows[k]? = some x := ⟨_, List.getElem?_eq_getElem hkl⟩
      obtain ⟨gw, ow, hs, _, c0, _⟩ := HX.out.mem.window hx
      rw [hs] at y10
      have e1 := take_count (p := fun x : Mx.Win => x.kind == 1) hx
      have e2 := take_count (p := fun x : Mx.Win => x.kind == 2) hx
      have hcs : x.kind = 1 ∨ x.kind = 2 ∨ x.kind = 3 := by have := (Lq.wx_of HP.out hx).kind; omega
      obtain ⟨kd, st, fn, cy, rp, ms⟩ := x
      dsimp only at c0 e1 e2 hcs
      rw [← HXc.out] at e1
      rw [← HAc.out] at e2
      clear hx HXc HAc
      rcases hcs with rfl | rfl | rfl
      · have HX2 : Hid (X + 1 = (m.windows.take (k + 1)).countP (fun x => x.kind == 1)) := e1.symm
        have HA2 : Hid (A = (m.windows.take (k + 1)).countP (fun x => x.kind == 2)) := e2.symm
        clear e1 e2
        go_wp2_with fail
        go_roundw
        case rel => exact ⟨k + 1, X + 1, A, by omega, by omega, by omega, rfl, rfl, rfl, (by first | rfl | trivial), HX2, HA2⟩
        case measure => simp only [intOf]; omega
      · have HX2 : Hid (X = (m.windows.take (k + 1)).countP (fun x => x.kind == 1)) := e1.symm
        have HA2 : Hid (A + 1 = (m.windows.take (k + 1)).countP (fun x => x.kind == 2)) := e2.symm
        clear e1 e2
        go_wp2_with fail
        go_roundw
        case rel => exact ⟨k + 1, X, A + 1, by omega, by omega, by omega, rfl, rfl, rfl, (by first | rfl | trivial), HX2, HA2⟩
        case measure => simp only [intOf]; omega
      · have HX2 : Hid (X = (m.windows.take (k + 1)).countP (fun x => x.kind == 1)) := e1.symm
        have HA2 : Hid (A = (m.windows.take (k + 1)).countP (fun x => x.kind == 2)) := e2.symm
        clear e1 e2
        go_wp2_with fail
        go_roundw
        case rel => exact ⟨k + 1, X, A, by omega, by omega, by omega, rfl, rfl, rfl, (by first | rfl | trivial), HX2, HA2⟩
        case measure => simp only [intOf]; omega
    · obtain rfl : k = m.windows.length := by omega
      have ki : ¬ ((m.windows.length : Int) < (m.windows.length : Int)) := by omega
      rw [List.take_length] at HXc HAc
      obtain ⟨V, hV⟩ : ∃ V, V = wr := ⟨_, rfl⟩
      subst hV
      go_upto_region 17 with fail
      clear y0 y1 y2 y3 y4 y5 y6 y7 y8 y9 y10 HLw hn3 hk hXk hAk ki
      obtain ⟨N, hN⟩ : ∃ N : Nat, m.nodes = (N : Int) := Int.eq_ofNat_of_zero_le (by have := Lq.cyc_of HP.out.is; omega)
      have hN8 : (N : Int) ≤ 8 := by have := Lq.cyc_of HP.out.is; omega
      have hN1 : (1 : Int) ≤ (N : Int) := by have := Lq.cyc_of HP.out.is; omega
      have HV : Hid (Nb V (V.alloc (.cells #[.int .i64 0, .int .i64 0, .int .i64 0, .int .i64 0, .int .i64 0, .int .i64 0] 42)) V.heap.size 0 0 0 0 0) := ⟨(Below.refl _ _).alloc (Nat.le_refl _) _, Nat.le_refl _, RowT.new _ _ _⟩
      generalize V.alloc (.cells #[.int .i64 0, .int .i64 0, .int .i64 0, .int .i64 0, .int .i64 0, .int .i64 0] 42) = v0 at HV ⊢
      generalize hq : V.heap.size = q at HV ⊢
      clear hq
      obtain ⟨sh1, sh2, sh3, sh4, sh5⟩ := Yq.shares HP.out hN
      have HSh : Hid (Yq.tot (fun i => Yq.cnt 1 (Yq.plan m (i : Int))) N = X ∧ Yq.tot (fun i => Yq.cnt 2 (Yq.plan m (i : Int))) N = A * N ∧ Yq.tot (fun i => Yq.cnt 3 (Yq.plan m (i : Int))) N = X * (N - 1) ∧ Yq.tot (fun i => Yq.cnt 4 (Yq.plan m (i : Int))) N = 2 * m.masters.length ∧ Yq.tot (fun i => Yq.cnt 5 (Yq.plan m (i : Int))) N = N) := by
        rw [← HXc.out] at sh1 sh3
        rw [← HAc.out] at sh2
        exact ⟨sh1, sh2, sh3, sh4, sh5⟩
      have HX16 : Hid (X ≤ 16 ∧ A ≤ 16) := by
        have h16 := Yq.wins16 HP.out.is
        refine ⟨?_, ?_⟩
        · rw [HXc.out]; exact Nat.le_trans List.countP_le_length h16
        · rw [HAc.out]; exact Nat.le_trans List.countP_le_length h16
      have HNn : Hid (m.nodes = (N : Int)) := hN
      clear sh1 sh2 sh3 sh4 sh5 HXc HAc hN
      go_upto_block 2 with fail
      go_wp2_with fail
      go_loopw [9, 10, 11] (fun vi _ _ w2 => ∃ (j n1 n2 n3 n4 n5 : Nat), j ≤ N ∧ n1 ≤ 1000 * j ∧ n2 ≤ 1000 * j ∧ n3 ≤ 1000 * j ∧ n4 ≤ 1000 * j ∧ n5 ≤ 1000 * j ∧ vi = .int .i64 (j : Int) ∧ Hid (Nb V w2 q n1 n2 n3 n4 n5) ∧ Hid (n1 = Yq.tot (fun i => Yq.cnt 1 (Yq.plan m (i : Int))) j ∧ n2 = Yq.tot (fun i => Yq.cnt 2 (Yq.plan m (i : Int))) j ∧ n3 = Yq.tot (fun i => Yq.cnt 3 (Yq.plan m (i : Int))) j ∧ n4 = Yq.tot (fun i => Yq.cnt 4 (Yq.plan m (i : Int))) j ∧ n5 = Yq.tot (fun i => Yq.cnt 5 (Yq.plan m (i : Int))) j)) (fun vi _ _ _ => N - (intOf vi).toNat)
      case atStart => exact ⟨0, 0, 0, 0, 0, 0, Nat.zero_le _, Nat.zero_le _, Nat.zero_le _, Nat.zero_le _, Nat.zero_le _, Nat.zero_le _, rfl, HV, rfl, rfl, rfl, rfl, rfl⟩
      case round =>
        clear HV
        obtain ⟨j, n1, n2, n3, n4, n5, hj, q1, q2, q3, q4, q5, rfl, HNb, HTt⟩ := hrel
        have HXr : Hid (Bx W wr W.heap.size m a) := HX.out.on HNb.out.bel
        obtain ⟨y0, y1, y2, y3, y4, y5, y6, y7, y8, y9, y10⟩ := HXr.out.row.mat
        by_cases hjN : j < N
        · have ji : (j : Int) < m.nodes := by have := HNn.out; omega
          have jb : (j : Int) < 8 := by omega
          have HPj := HPl.out wr (j : Int) HXr.out HS.out (wfi (by omega))
          have HLp : Hid ((Yq.plan m (j : Int)).length ≤ 1000) := Yq.plan_len m _ HS.out
          have HTx : Hid (∀ t ∈ Yq.plan m (j : Int), Yq.Tx m t) := fun t ht => Yq.tx_of HP.out ht
          have HSr : Hid (Yq.Srt (Yq.plan m (j : Int))) := Yq.srt_plan m _
          have HTn : Hid (∀ t, Yq.tot (fun i => Yq.cnt t (Yq.plan m (i : Int))) (j + 1) = Yq.tot (fun i => Yq.cnt t (Yq.plan m (i : Int))) j + Yq.cnt t (Yq.plan m (j : Int))) := fun t => rfl
          generalize hlp : Yq.plan m (j : Int) = lp at HPj HLp HTx HSr HTn
          clear hlp
          have hlb : (lp.length : Int) ≤ 1000 := by have := HLp.out; omega
          go_wp2_with fail
          refine HPj.mono ?_
          rintro e w3 ⟨s1, c1, ln, hn, rfl, hl, hb⟩
          obtain rfl : lp.length = ln := hn.symm
          have HN3 : Hid (Nb V w3 q n1 n2 n3 n4 n5) := HNb.out.on hb
          have HL3 : Hid (LI w3 s1 c1 lp.length (lp.flatMap tC)) := hl
          clear hl hb hn HPj HXr y0 y1 y2 y3 y4 y5 y6 y7 y8 y9 y10 HNb
          go_upto_block 4 with fail
          go_wp2_with fail
          go_loopw [11] (fun vi w4 => ∃ (i N1 N2 N3 N4 N5 : Nat), i ≤ lp.length ∧ N1 ≤ n1 + i ∧ N2 ≤ n2 + i ∧ N3 ≤ n3 + i ∧ N4 ≤ n4 + i ∧ N5 ≤ n5 + i ∧ vi = .int .i64 (i : Int) ∧ Hid (Nb V w4 q N1 N2 N3 N4 N5) ∧ Hid (LI w4 s1 c1 lp.length (lp.flatMap tC)) ∧ Hid (N1 = n1 + Yq.cnt 1 (lp.take i) ∧ N2 = n2 + Yq.cnt 2 (lp.take i) ∧ N3 = n3 + Yq.cnt 3 (lp.take i) ∧ N4 = n4 + Yq.cnt 4 (lp.take i) ∧ N5 = n5 + Yq.cnt 5 (lp.take i))) (fun vi _ => lp.length - (intOf vi).toNat)
          case atStart => exact ⟨0, n1, n2, n3, n4, n5, Nat.zero_le _, Nat.le_refl _, Nat.le_refl _, Nat.le_refl _, Nat.le_refl _, Nat.le_refl _, rfl, HN3, HL3, rfl, rfl, rfl, rfl, rfl⟩
          case round =>
            clear HN3 HL3
            obtain ⟨i, N1, N2, N3, N4, N5, hi, p1, p2, p3, p4, p5, rfl, HNb, HL, HA⟩ := hrel
            have hcap := HL.out.1
            by_cases hil : i < lp.length
            · have ii : (i : Int) < (lp.length : Int) := by omega
              have ib : (i : Int) < 1000 := by omega
              obtain ⟨t, ht⟩ : ∃ t, lp[i]? = some t := ⟨_, List.getElem?_eq_getElem hil⟩
              have tx := HTx.out t (List.mem_of_getElem? ht)
              have hne := HNb.out.ne HL.out (fun t ht => (HTx.out t ht).kind.1)
              obtain ⟨g, o, rfl, hc⟩ := LI.trig HL.out ht
              have HGq : Hid (¬ g = q) := hne ⟨g, o, none⟩ (by omega) rfl
              have tk := tx.kind
              have tt := tx.til
              have HC : Hid (∀ k : Int, Yq.cnt k (lp.take (i + 1)) = Yq.cnt k (lp.take i) + (if t.kind == k then 1 else 0)) := fun k => take_count (p := fun t : Yq.Tr => t.kind == k) ht
              have HPr : Hid (i = 0 ∨ ∃ k p, i = k + 1 ∧ lp[k]? = some p ∧ p.at_ ≤ t.at_) := by
                cases i with
                | zero => exact Or.inl rfl
                | succ k =>
                  refine Or.inr ⟨k, lp[k], rfl, List.getElem?_eq_getElem (by omega), ?_⟩
                  have := List.pairwise_iff_getElem.1 HSr.out k (k + 1) (by omega) hil (by omega)
                  rw [List.getElem?_eq_getElem hil] at ht
                  injection ht with ht
                  rw [← ht]
                  exact this
              obtain ⟨kd, tat, tcy, trp, tms, tul⟩ := t
              dsimp only at tk tt hc HC HPr
              clear tx hne ht hi
              have hcs : kd = 1 ∨ kd = 2 ∨ kd = 3 ∨ kd = 4 ∨ kd = 5 := by omega
              clear tk
              rcases hcs with rfl | rfl | rfl | rfl | rfl
              · skip
                have tlb : (tul != 0) = true := bne_iff_ne.2 (tt.2 (Or.inl rfl))
                clear tt
                have HTl : Hid (∀ w', Below wr.heap.size wr w' → w'.cell? ⟨g, o + i * 6, none⟩ = some (.int .i64 1) ∧ w'.cell? ⟨g, o + i * 6 + 1, none⟩ = some (.int .i64 tat) ∧ w'.cell? ⟨g, o + i * 6 + 5, none⟩ = some (.int .i64 tul)) := fun w' hb => ⟨(hc w' hb).1, (hc w' hb).2.1, (hc w' hb).2.2.2.2.2⟩
                clear hc
                have HA2 : Hid (N1 + 1 = n1 + Yq.cnt 1 (lp.take (i + 1)) ∧ N2 = n2 + Yq.cnt 2 (lp.take (i + 1)) ∧ N3 = n3 + Yq.cnt 3 (lp.take (i + 1)) ∧ N4 = n4 + Yq.cnt 4 (lp.take (i + 1)) ∧ N5 = n5 + Yq.cnt 5 (lp.take (i + 1))) := by
                  obtain ⟨u1, u2, u3, u4, u5⟩ := HA.out
                  have k1 := HC.out 1
                  have k2 := HC.out 2
                  have k3 := HC.out 3
                  have k4 := HC.out 4
                  have k5 := HC.out 5
                  simp at k1 k2 k3 k4 k5
                  exact ⟨by omega, by omega, by omega, by omega, by omega⟩
                clear HC HA HTx HSr HTt HTn
                go_wp2_with fail
                go_cut [127] from 73 to 127 (fun v wx => v = .bool false ∧ Hid (Below wr.heap.size wr wx))
                case first =>
                  rcases HPr.out with h0 | ⟨k, pv, hk, hpv, hle⟩
                  · have i0 : ¬ ((0 : Int) < (i : Int)) := by omega
                    have i1 : ¬ (0 < i) := by omega
                    clear HPr h0
                    refine Lw.wp_region_quiet_below (by kernel_rfl) (by kernel_rfl) ?_
                    repeat (first
                      | go_big_quiet_skip
                      | (go_big_quiet_want; go_big_quiet_op; go_big_quiet_on)
                      | (go_big_quiet_want; go_big_quiet_op; apply Exists.intro; refine ⟨fun _ hb' => ?_, ?_⟩; (first
                        | exact Lw.val_rfl _
                        | (simp [go_sem, (HTl.out _ hb').1]; rfl)
                        | (simp [go_sem, (HTl.out _ hb').2.1]; rfl)
                        | (simp [go_sem, (HTl.out _ hb').2.2]; rfl)); go_big_quiet_on))
                    refine wpQuiet_nil ?_
                    intro wz hbz
                    go_wp2_with fail
                    go_meet
                    case rel => exact ⟨rfl, hbz⟩
                  · have kb : (k : Int) < 1000 := by omega
                    have ki : (k : Int) < (lp.length : Int) := by omega
                    obtain ⟨g', o', e1, hcp⟩ := LI.trig HL.out hpv
                    injection e1 with e1
                    injection e1 with e1 e2
                    subst e1 e2
                    have HPv : Hid (∀ w', Below wr.heap.size wr w' → w'.cell? ⟨g, o + k * 6 + 1, none⟩ = some (.int .i64 pv.at_)) := fun w' hb => (hcp w' hb).2.1
                    have hnl : ¬ (tat < pv.at_) := by omega
                    have i0 : (0 : Int) < (i : Int) := by omega
                    have i1 : 0 < i := by omega
                    have ek : (i : Int) - 1 = (k : Int) := by omega
                    have ew : IntKind.i64.wrap ((i : Int) - 1) = (k : Int) := by rw [IntKind.wrap_i64]; omega
                    clear hcp HPr hpv hle hk
                    refine Lw.wp_region_quiet_below (by kernel_rfl) (by kernel_rfl) ?_
                    repeat (first
                      | go_big_quiet_skip
                      | (go_big_quiet_want; go_big_quiet_op; go_big_quiet_on)
                      | (go_big_quiet_want; go_big_quiet_op; apply Exists.intro; refine ⟨fun _ hb' => ?_, ?_⟩; (first
                        | exact Lw.val_rfl _
                        | (simp [go_sem, (HTl.out _ hb').1]; rfl)
                        | (simp [go_sem, (HTl.out _ hb').2.1]; rfl)
                        | (simp [go_sem, (HTl.out _ hb').2.2]; rfl)
                        | (simp [go_sem, HPv.out _ hb']; rfl)); go_big_quiet_on))
                    refine wpQuiet_nil ?_
                    intro wz hbz
                    go_wp2_with fail
                    go_meet
                    case rel => exact ⟨rfl, hbz⟩
                case rest =>
                  obtain ⟨rfl, HBz⟩ := hcut
                  obtain ⟨t0, _, _⟩ := HTl.out _ HBz.out
                  have HNc := HNb.out.on HBz.out
                  have HLc := HL.out.on HBz.out
                  have nk : wc.cell? ⟨q, 1, none⟩ = some (.int .i64 (N1 : Int)) := HNc.row.c 1 _ rfl
                  have fk : wc.frozen? ⟨q, 1, none⟩ = false := HNc.row.f 1
                  have HN2 : Hid (Nb V (wc.setCell ⟨q, 1, none⟩ (.int .i64 ((N1 : Int) + 1))) q (N1 + 1) N2 N3 N4 N5) := HNc.put1
                  have HL2 : Hid (LI (wc.setCell ⟨q, 1, none⟩ (.int .i64 ((N1 : Int) + 1))) (some ⟨g, o, none⟩) c1 lp.length (lp.flatMap tC)) := HLc.kept (F := fun j => j = q) (Kept.set _ _ _ rfl) (fun a _ ha => by injection ha with ha; subst ha; exact HGq.out)
                  have nb : (N1 : Int) < 100000 := by omega
                  clear HNc HLc HNb HL HTl HPr HBz
                  go_wp2_with fail
                  go_roundw
                  case rel => exact ⟨i + 1, N1 + 1, N2, N3, N4, N5, by omega, by omega, by omega, by omega, by omega, by omega, rfl, HN2, HL2, HA2⟩
                  case measure => simp only [intOf]; omega
              · skip
                have tlb : (tul != 0) = true := bne_iff_ne.2 (tt.2 (Or.inr rfl))
                clear tt
                have HTl : Hid (∀ w', Below wr.heap.size wr w' → w'.cell? ⟨g, o + i * 6, none⟩ = some (.int .i64 2) ∧ w'.cell? ⟨g, o + i * 6 + 1, none⟩ = some (.int .i64 tat) ∧ w'.cell? ⟨g, o + i * 6 + 5, none⟩ = some (.int .i64 tul)) := fun w' hb => ⟨(hc w' hb).1, (hc w' hb).2.1, (hc w' hb).2.2.2.2.2⟩
                clear hc
                have HA2 : Hid (N1 = n1 + Yq.cnt 1 (lp.take (i + 1)) ∧ N2 + 1 = n2 + Yq.cnt 2 (lp.take (i + 1)) ∧ N3 = n3 + Yq.cnt 3 (lp.take (i + 1)) ∧ N4 = n4 + Yq.cnt 4 (lp.take (i + 1)) ∧ N5 = n5 + Yq.cnt 5 (lp.take (i + 1))) := by
                  obtain ⟨u1, u2, u3, u4, u5⟩ := HA.out
                  have k1 := HC.out 1
                  have k2 := HC.out 2
                  have k3 := HC.out 3
                  have k4 := HC.out 4
                  have k5 := HC.out 5
                  simp at k1 k2 k3 k4 k5
                  exact ⟨by omega, by omega, by omega, by omega, by omega⟩
                clear HC HA HTx HSr HTt HTn
                go_wp2_with fail
                go_cut [127] from 73 to 127 (fun v wx => v = .bool false ∧ Hid (Below wr.heap.size wr wx))
                case first =>
                  rcases HPr.out with h0 | ⟨k, pv, hk, hpv, hle⟩
                  · have i0 : ¬ ((0 : Int) < (i : Int)) := by omega
                    have i1 : ¬ (0 < i) := by omega
                    clear HPr h0
                    refine Lw.wp_region_quiet_below (by kernel_rfl) (by kernel_rfl) ?_
                    repeat (first
                      | go_big_quiet_skip
                      | (go_big_quiet_want; go_big_quiet_op; go_big_quiet_on)
                      | (go_big_quiet_want; go_big_quiet_op; apply Exists.intro; refine ⟨fun _ hb' => ?_, ?_⟩; (first
                        | exact Lw.val_rfl _
                        | (simp [go_sem, (HTl.out _ hb').1]; rfl)
                        | (simp [go_sem, (HTl.out _ hb').2.1]; rfl)
                        | (simp [go_sem, (HTl.out _ hb').2.2]; rfl)); go_big_quiet_on))
                    refine wpQuiet_nil ?_
                    intro wz hbz
                    go_wp2_with fail
                    go_meet
                    case rel => exact ⟨rfl, hbz⟩
                  · have kb : (k : Int) < 1000 := by omega
                    have ki : (k : Int) < (lp.length : Int) := by omega
                    obtain ⟨g', o', e1, hcp⟩ := LI.trig HL.out hpv
                    injection e1 with e1
                    injection e1 with e1 e2
                    subst e1 e2
                    have HPv : Hid (∀ w', Below wr.heap.size wr w' → w'.cell? ⟨g, o + k * 6 + 1, none⟩ = some (.int .i64 pv.at_)) := fun w' hb => (hcp w' hb).2.1
                    have hnl : ¬ (tat < pv.at_) := by omega
                    have i0 : (0 : Int) < (i : Int) := by omega
                    have i1 : 0 < i := by omega
                    have ek : (i : Int) - 1 = (k : Int) := by omega
                    have ew : IntKind.i64.wrap ((i : Int) - 1) = (k : Int) := by rw [IntKind.wrap_i64]; omega
                    clear hcp HPr hpv hle hk
                    refine Lw.wp_region_quiet_below (by kernel_rfl) (by kernel_rfl) ?_
                    repeat (first
                      | go_big_quiet_skip
                      | (go_big_quiet_want; go_big_quiet_op; go_big_quiet_on)
                      | (go_big_quiet_want; go_big_quiet_op; apply Exists.intro; refine ⟨fun _ hb' => ?_, ?_⟩; (first
                        | exact Lw.val_rfl _
                        | (simp [go_sem, (HTl.out _ hb').1]; rfl)
                        | (simp [go_sem, (HTl.out _ hb').2.1]; rfl)
                        | (simp [go_sem, (HTl.out _ hb').2.2]; rfl)
                        | (simp [go_sem, HPv.out _ hb']; rfl)); go_big_quiet_on))
                    refine wpQuiet_nil ?_
                    intro wz hbz
                    go_wp2_with fail
                    go_meet
                    case rel => exact ⟨rfl, hbz⟩
                case rest =>
                  obtain ⟨rfl, HBz⟩ := hcut
                  obtain ⟨t0, _, _⟩ := HTl.out _ HBz.out
                  have HNc := HNb.out.on HBz.out
                  have HLc := HL.out.on HBz.out
                  have nk : wc.cell? ⟨q, 2, none⟩ = some (.int .i64 (N2 : Int)) := HNc.row.c 2 _ rfl
                  have fk : wc.frozen? ⟨q, 2, none⟩ = false := HNc.row.f 2
                  have HN2 : Hid (Nb V (wc.setCell ⟨q, 2, none⟩ (.int .i64 ((N2 : Int) + 1))) q N1 (N2 + 1) N3 N4 N5) := HNc.put2
                  have HL2 : Hid (LI (wc.setCell ⟨q, 2, none⟩ (.int .i64 ((N2 : Int) + 1))) (some ⟨g, o, none⟩) c1 lp.length (lp.flatMap tC)) := HLc.kept (F := fun j => j = q) (Kept.set _ _ _ rfl) (fun a _ ha => by injection ha with ha; subst ha; exact HGq.out)
                  have nb : (N2 : Int) < 100000 := by omega
                  clear HNc HLc HNb HL HTl HPr HBz
                  go_wp2_with fail
                  go_roundw
                  case rel => exact ⟨i + 1, N1, N2 + 1, N3, N4, N5, by omega, by omega, by omega, by omega, by omega, by omega, rfl, HN2, HL2, HA2⟩
                  case measure => simp only [intOf]; omega
              · skip
                obtain rfl : tul = 0 := Classical.byContradiction fun h => by have := tt.1 h; omega
                clear tt
                have HTl : Hid (∀ w', Below wr.heap.size wr w' → w'.cell? ⟨g, o + i * 6, none⟩ = some (.int .i64 3) ∧ w'.cell? ⟨g, o + i * 6 + 1, none⟩ = some (.int .i64 tat) ∧ w'.cell? ⟨g, o + i * 6 + 5, none⟩ = some (.int .i64 0)) := fun w' hb => ⟨(hc w' hb).1, (hc w' hb).2.1, (hc w' hb).2.2.2.2.2⟩
                clear hc
                have HA2 : Hid (N1 = n1 + Yq.cnt 1 (lp.take (i + 1)) ∧ N2 = n2 + Yq.cnt 2 (lp.take (i + 1)) ∧ N3 + 1 = n3 + Yq.cnt 3 (lp.take (i + 1)) ∧ N4 = n4 + Yq.cnt 4 (lp.take (i + 1)) ∧ N5 = n5 + Yq.cnt 5 (lp.take (i + 1))) := by
                  obtain ⟨u1, u2, u3, u4, u5⟩ := HA.out
                  have k1 := HC.out 1
                  have k2 := HC.out 2
                  have k3 := HC.out 3
                  have k4 := HC.out 4
                  have k5 := HC.out 5
                  simp at k1 k2 k3 k4 k5
                  exact ⟨by omega, by omega, by omega, by omega, by omega⟩
                clear HC HA HTx HSr HTt HTn
                go_wp2_with fail
                go_cut [127] from 73 to 127 (fun v wx => v = .bool false ∧ Hid (Below wr.heap.size wr wx))
                case first =>
                  rcases HPr.out with h0 | ⟨k, pv, hk, hpv, hle⟩
                  · have i0 : ¬ ((0 : Int) < (i : Int)) := by omega
                    have i1 : ¬ (0 < i) := by omega
                    clear HPr h0
                    refine Lw.wp_region_quiet_below (by kernel_rfl) (by kernel_rfl) ?_
                    repeat (first
                      | go_big_quiet_skip
                      | (go_big_quiet_want; go_big_quiet_op; go_big_quiet_on)
                      | (go_big_quiet_want; go_big_quiet_op; apply Exists.intro; refine ⟨fun _ hb' => ?_, ?_⟩; (first
                        | exact Lw.val_rfl _
                        | (simp [go_sem, (HTl.out _ hb').1]; rfl)
                        | (simp [go_sem, (HTl.out _ hb').2.1]; rfl)
                        | (simp [go_sem, (HTl.out _ hb').2.2]; rfl)); go_big_quiet_on))
                    refine wpQuiet_nil ?_
                    intro wz hbz
                    go_wp2_with fail
                    go_meet
                    case rel => exact ⟨rfl, hbz⟩
                  · have kb : (k : Int) < 1000 := by omega
                    have ki : (k : Int) < (lp.length : Int) := by omega
                    obtain ⟨g', o', e1, hcp⟩ := LI.trig HL.out hpv
                    injection e1 with e1
                    injection e1 with e1 e2
                    subst e1 e2
                    have HPv : Hid (∀ w', Below wr.heap.size wr w' → w'.cell? ⟨g, o + k * 6 + 1, none⟩ = some (.int .i64 pv.at_)) := fun w' hb => (hcp w' hb).2.1
                    have hnl : ¬ (tat < pv.at_) := by omega
                    have i0 : (0 : Int) < (i : Int) := by omega
                    have i1 : 0 < i := by omega
                    have ek : (i : Int) - 1 = (k : Int) := by omega
                    have ew : IntKind.i64.wrap ((i : Int) - 1) = (k : Int) := by rw [IntKind.wrap_i64]; omega
                    clear hcp HPr hpv hle hk
                    refine Lw.wp_region_quiet_below (by kernel_rfl) (by kernel_rfl) ?_
                    repeat (first
                      | go_big_quiet_skip
                      | (go_big_quiet_want; go_big_quiet_op; go_big_quiet_on)
                      | (go_big_quiet_want; go_big_quiet_op; apply Exists.intro; refine ⟨fun _ hb' => ?_, ?_⟩; (first
                        | exact Lw.val_rfl _
                        | (simp [go_sem, (HTl.out _ hb').1]; rfl)
                        | (simp [go_sem, (HTl.out _ hb').2.1]; rfl)
                        | (simp [go_sem, (HTl.out _ hb').2.2]; rfl)
                        | (simp [go_sem, HPv.out _ hb']; rfl)); go_big_quiet_on))
                    refine wpQuiet_nil ?_
                    intro wz hbz
                    go_wp2_with fail
                    go_meet
                    case rel => exact ⟨rfl, hbz⟩
                case rest =>
                  obtain ⟨rfl, HBz⟩ := hcut
                  obtain ⟨t0, _, _⟩ := HTl.out _ HBz.out
                  have HNc := HNb.out.on HBz.out
                  have HLc := HL.out.on HBz.out
                  have nk : wc.cell? ⟨q, 3, none⟩ = some (.int .i64 (N3 : Int)) := HNc.row.c 3 _ rfl
                  have fk : wc.frozen? ⟨q, 3, none⟩ = false := HNc.row.f 3
                  have HN2 : Hid (Nb V (wc.setCell ⟨q, 3, none⟩ (.int .i64 ((N3 : Int) + 1))) q N1 N2 (N3 + 1) N4 N5) := HNc.put3
                  have HL2 : Hid (LI (wc.setCell ⟨q, 3, none⟩ (.int .i64 ((N3 : Int) + 1))) (some ⟨g, o, none⟩) c1 lp.length (lp.flatMap tC)) := HLc.kept (F := fun j => j = q) (Kept.set _ _ _ rfl) (fun a _ ha => by injection ha with ha; subst ha; exact HGq.out)
                  have nb : (N3 : Int) < 100000 := by omega
                  clear HNc HLc HNb HL HTl HPr HBz
                  go_wp2_with fail
                  go_roundw
                  case rel => exact ⟨i + 1, N1, N2, N3 + 1, N4, N5, by omega, by omega, by omega, by omega, by omega, by omega, rfl, HN2, HL2, HA2⟩
                  case measure => simp only [intOf]; omega
              · skip
                obtain rfl : tul = 0 := Classical.byContradiction fun h => by have := tt.1 h; omega
                clear tt
                have HTl : Hid (∀ w', Below wr.heap.size wr w' → w'.cell? ⟨g, o + i * 6, none⟩ = some (.int .i64 4) ∧ w'.cell? ⟨g, o + i * 6 + 1, none⟩ = some (.int .i64 tat) ∧ w'.cell? ⟨g, o + i * 6 + 5, none⟩ = some (.int .i64 0)) := fun w' hb => ⟨(hc w' hb).1, (hc w' hb).2.1, (hc w' hb).2.2.2.2.2⟩
                clear hc
                have HA2 : Hid (N1 = n1 + Yq.cnt 1 (lp.take (i + 1)) ∧ N2 = n2 + Yq.cnt 2 (lp.take (i + 1)) ∧ N3 = n3 + Yq.cnt 3 (lp.take (i + 1)) ∧ N4 + 1 = n4 + Yq.cnt 4 (lp.take (i + 1)) ∧ N5 = n5 + Yq.cnt 5 (lp.take (i + 1))) := by
                  obtain ⟨u1, u2, u3, u4, u5⟩ := HA.out
                  have k1 := HC.out 1
                  have k2 := HC.out 2
                  have k3 := HC.out 3
                  have k4 := HC.out 4
                  have k5 := HC.out 5
                  simp at k1 k2 k3 k4 k5
                  exact ⟨by omega, by omega, by omega, by omega, by omega⟩
                clear HC HA HTx HSr HTt HTn
                go_wp2_with fail
                go_cut [127] from 73 to 127 (fun v wx => v = .bool false ∧ Hid (Below wr.heap.size wr wx))
                case first =>
                  rcases HPr.out with h0 | ⟨k, pv, hk, hpv, hle⟩
                  · have i0 : ¬ ((0 : Int) < (i : Int)) := by omega
                    have i1 : ¬ (0 < i) := by omega
                    clear HPr h0
                    refine Lw.wp_region_quiet_below (by kernel_rfl) (by kernel_rfl) ?_
                    repeat (first
                      | go_big_quiet_skip
                      | (go_big_quiet_want; go_big_quiet_op; go_big_quiet_on)
                      | (go_big_quiet_want; go_big_quiet_op; apply Exists.intro; refine ⟨fun _ hb' => ?_, ?_⟩; (first
                        | exact Lw.val_rfl _
                        | (simp [go_sem, (HTl.out _ hb').1]; rfl)
                        | (simp [go_sem, (HTl.out _ hb').2.1]; rfl)
                        | (simp [go_sem, (HTl.out _ hb').2.2]; rfl)); go_big_quiet_on))
                    refine wpQuiet_nil ?_
                    intro wz hbz
                    go_wp2_with fail
                    go_meet
                    case rel => exact ⟨rfl, hbz⟩
                  · have kb : (k : Int) < 1000 := by omega
                    have ki : (k : Int) < (lp.length : Int) := by omega
                    obtain ⟨g', o', e1, hcp⟩ := LI.trig HL.out hpv
                    injection e1 with e1
                    injection e1 with e1 e2
                    subst e1 e2
                    have HPv : Hid (∀ w', Below wr.heap.size wr w' → w'.cell? ⟨g, o + k * 6 + 1, none⟩ = some (.int .i64 pv.at_)) := fun w' hb => (hcp w' hb).2.1
                    have hnl : ¬ (tat < pv.at_) := by omega
                    have i0 : (0 : Int) < (i : Int) := by omega
                    have i1 : 0 < i := by omega
                    have ek : (i : Int) - 1 = (k : Int) := by omega
                    have ew : IntKind.i64.wrap ((i : Int) - 1) = (k : Int) := by rw [IntKind.wrap_i64]; omega
                    clear hcp HPr hpv hle hk
                    refine Lw.wp_region_quiet_below (by kernel_rfl) (by kernel_rfl) ?_
                    repeat (first
                      | go_big_quiet_skip
                      | (go_big_quiet_want; go_big_quiet_op; go_big_quiet_on)
                      | (go_big_quiet_want; go_big_quiet_op; apply Exists.intro; refine ⟨fun _ hb' => ?_, ?_⟩; (first
                        | exact Lw.val_rfl _
                        | (simp [go_sem, (HTl.out _ hb').1]; rfl)
                        | (simp [go_sem, (HTl.out _ hb').2.1]; rfl)
                        | (simp [go_sem, (HTl.out _ hb').2.2]; rfl)
                        | (simp [go_sem, HPv.out _ hb']; rfl)); go_big_quiet_on))
                    refine wpQuiet_nil ?_
                    intro wz hbz
                    go_wp2_with fail
                    go_meet
                    case rel => exact ⟨rfl, hbz⟩
                case rest =>
                  obtain ⟨rfl, HBz⟩ := hcut
                  obtain ⟨t0, _, _⟩ := HTl.out _ HBz.out
                  have HNc := HNb.out.on HBz.out
                  have HLc := HL.out.on HBz.out
                  have nk : wc.cell? ⟨q, 4, none⟩ = some (.int .i64 (N4 : Int)) := HNc.row.c 4 _ rfl
                  have fk : wc.frozen? ⟨q, 4, none⟩ = false := HNc.row.f 4
                  have HN2 : Hid (Nb V (wc.setCell ⟨q, 4, none⟩ (.int .i64 ((N4 : Int) + 1))) q N1 N2 N3 (N4 + 1) N5) := HNc.put4
                  have HL2 : Hid (LI (wc.setCell ⟨q, 4, none⟩ (.int .i64 ((N4 : Int) + 1))) (some ⟨g, o, none⟩) c1 lp.length (lp.flatMap tC)) := HLc.kept (F := fun j => j = q) (Kept.set _ _ _ rfl) (fun a _ ha => by injection ha with ha; subst ha; exact HGq.out)
                  have nb : (N4 : Int) < 100000 := by omega
                  clear HNc HLc HNb HL HTl HPr HBz
                  go_wp2_with fail
                  go_roundw
                  case rel => exact ⟨i + 1, N1, N2, N3, N4 + 1, N5, by omega, by omega, by omega, by omega, by omega, by omega, rfl, HN2, HL2, HA2⟩
                  case measure => simp only [intOf]; omega
              · skip
                obtain rfl : tul = 0 := Classical.byContradiction fun h => by have := tt.1 h; omega
                clear tt
                have HTl : Hid (∀ w', Below wr.heap.size wr w' → w'.cell? ⟨g, o + i * 6, none⟩ = some (.int .i64 5) ∧ w'.cell? ⟨g, o + i * 6 + 1, none⟩ = some (.int .i64 tat) ∧ w'.cell? ⟨g, o + i * 6 + 5, none⟩ = some (.int .i64 0)) := fun w' hb => ⟨(hc w' hb).1, (hc w' hb).2.1, (hc w' hb).2.2.2.2.2⟩
                clear hc
                have HA2 : Hid (N1 = n1 + Yq.cnt 1 (lp.take (i + 1)) ∧ N2 = n2 + Yq.cnt 2 (lp.take (i + 1)) ∧ N3 = n3 + Yq.cnt 3 (lp.take (i + 1)) ∧ N4 = n4 + Yq.cnt 4 (lp.take (i + 1)) ∧ N5 + 1 = n5 + Yq.cnt 5 (lp.take (i + 1))) := by
                  obtain ⟨u1, u2, u3, u4, u5⟩ := HA.out
                  have k1 := HC.out 1
                  have k2 := HC.out 2
                  have k3 := HC.out 3
                  have k4 := HC.out 4
                  have k5 := HC.out 5
                  simp at k1 k2 k3 k4 k5
                  exact ⟨by omega, by omega, by omega, by omega, by omega⟩
                clear HC HA HTx HSr HTt HTn
                go_wp2_with fail
                go_cut [127] from 73 to 127 (fun v wx => v = .bool false ∧ Hid (Below wr.heap.size wr wx))
                case first =>
                  rcases HPr.out with h0 | ⟨k, pv, hk, hpv, hle⟩
                  · have i0 : ¬ ((0 : Int) < (i : Int)) := by omega
                    have i1 : ¬ (0 < i) := by omega
                    clear HPr h0
                    refine Lw.wp_region_quiet_below (by kernel_rfl) (by kernel_rfl) ?_
                    repeat (first
                      | go_big_quiet_skip
                      | (go_big_quiet_want; go_big_quiet_op; go_big_quiet_on)
                      | (go_big_quiet_want; go_big_quiet_op; apply Exists.intro; refine ⟨fun _ hb' => ?_, ?_⟩; (first
                        | exact Lw.val_rfl _
                        | (simp [go_sem, (HTl.out _ hb').1]; rfl)
                        | (simp [go_sem, (HTl.out _ hb').2.1]; rfl)
                        | (simp [go_sem, (HTl.out _ hb').2.2]; rfl)); go_big_quiet_on))
                    refine wpQuiet_nil ?_
                    intro wz hbz
                    go_wp2_with fail
                    go_meet
                    case rel => exact ⟨rfl, hbz⟩
                  · have kb : (k : Int) < 1000 := by omega
                    have ki : (k : Int) < (lp.length : Int) := by omega
                    obtain ⟨g', o', e1, hcp⟩ := LI.trig HL.out hpv
                    injection e1 with e1
                    injection e1 with e1 e2
                    subst e1 e2
                    have HPv : Hid (∀ w', Below wr.heap.size wr w' → w'.cell? ⟨g, o + k * 6 + 1, none⟩ = some (.int .i64 pv.at_)) := fun w' hb => (hcp w' hb).2.1
                    have hnl : ¬ (tat < pv.at_) := by omega
                    have i0 : (0 : Int) < (i : Int) := by omega
                    have i1 : 0 < i := by omega
                    have ek : (i : Int) - 1 = (k : Int) := by omega
                    have ew : IntKind.i64.wrap ((i : Int) - 1) = (k : Int) := by rw [IntKind.wrap_i64]; omega
                    clear hcp HPr hpv hle hk
                    refine Lw.wp_region_quiet_below (by kernel_rfl) (by kernel_rfl) ?_
                    repeat (first
                      | go_big_quiet_skip
                      | (go_big_quiet_want; go_big_quiet_op; go_big_quiet_on)
                      | (go_big_quiet_want; go_big_quiet_op; apply Exists.intro; refine ⟨fun _ hb' => ?_, ?_⟩; (first
                        | exact Lw.val_rfl _
                        | (simp [go_sem, (HTl.out _ hb').1]; rfl)
                        | (simp [go_sem, (HTl.out _ hb').2.1]; rfl)
                        | (simp [go_sem, (HTl.out _ hb').2.2]; rfl)
                        | (simp [go_sem, HPv.out _ hb']; rfl)); go_big_quiet_on))
                    refine wpQuiet_nil ?_
                    intro wz hbz
                    go_wp2_with fail
                    go_meet
                    case rel => exact ⟨rfl, hbz⟩
                case rest =>
                  obtain ⟨rfl, HBz⟩ := hcut
                  obtain ⟨t0, _, _⟩ := HTl.out _ HBz.out
                  have HNc := HNb.out.on HBz.out
                  have HLc := HL.out.on HBz.out
                  have nk : wc.cell? ⟨q, 5, none⟩ = some (.int .i64 (N5 : Int)) := HNc.row.c 5 _ rfl
                  have fk : wc.frozen? ⟨q, 5, none⟩ = false := HNc.row.f 5
                  have HN2 : Hid (Nb V (wc.setCell ⟨q, 5, none⟩ (.int .i64 ((N5 : Int) + 1))) q N1 N2 N3 N4 (N5 + 1)) := HNc.put5
                  have HL2 : Hid (LI (wc.setCell ⟨q, 5, none⟩ (.int .i64 ((N5 : Int) + 1))) (some ⟨g, o, none⟩) c1 lp.length (lp.flatMap tC)) := HLc.kept (F := fun j => j = q) (Kept.set _ _ _ rfl) (fun a _ ha => by injection ha with ha; subst ha; exact HGq.out)
                  have nb : (N5 : Int) < 100000 := by omega
                  clear HNc HLc HNb HL HTl HPr HBz
                  go_wp2_with fail
                  go_roundw
                  case rel => exact ⟨i + 1, N1, N2, N3, N4, N5 + 1, by omega, by omega, by omega, by omega, by omega, by omega, rfl, HN2, HL2, HA2⟩
                  case measure => simp only [intOf]; omega
            · obtain rfl : i = lp.length := by omega
              have ii : ¬ ((lp.length : Int) < (lp.length : Int)) := by omega
              obtain ⟨u1, u2, u3, u4, u5⟩ := HA.out
              obtain ⟨v1, v2, v3, v4, v5⟩ := HTt.out
              rw [List.take_length] at u1 u2 u3 u4 u5
              have HTf : Hid (N1 = Yq.tot (fun i => Yq.cnt 1 (Yq.plan m (i : Int))) (j + 1) ∧ N2 = Yq.tot (fun i => Yq.cnt 2 (Yq.plan m (i : Int))) (j + 1) ∧ N3 = Yq.tot (fun i => Yq.cnt 3 (Yq.plan m (i : Int))) (j + 1) ∧ N4 = Yq.tot (fun i => Yq.cnt 4 (Yq.plan m (i : Int))) (j + 1) ∧ N5 = Yq.tot (fun i => Yq.cnt 5 (Yq.plan m (i : Int))) (j + 1)) := ⟨by rw [HTn.out, u1, v1], by rw [HTn.out, u2, v2], by rw [HTn.out, u3, v3], by rw [HTn.out, u4, v4], by rw [HTn.out, u5, v5]⟩
              have hl1 := HLp.out
              clear u1 u2 u3 u4 u5 v1 v2 v3 v4 v5 HA HTt HTn
              go_wp2_with fail
              go_roundw
              case rel => exact ⟨j + 1, N1, N2, N3, N4, N5, by omega, by omega, by omega, by omega, by omega, by omega, rfl, HNb, HTf⟩
              case measure => simp only [intOf]; omega
        · obtain rfl : j = N := by omega
          have ji : ¬ ((j : Int) < m.nodes) := by have := HNn.out; omega
          obtain ⟨u1, u2, u3, u4, u5⟩ := HTt.out
          obtain ⟨v1, v2, v3, v4, v5⟩ := HSh.out
          obtain ⟨x16, a16⟩ := HX16.out
          have hj1 : 1 ≤ j := by omega
          have hl4 := Yq.lens4 HP.out.is
          rw [v1] at u1
          rw [v2] at u2
          rw [v3] at u3
          rw [v4] at u4
          rw [v5] at u5
          obtain rfl : X = n1 := u1.symm
          obtain rfl : j = n5 := u5.symm
          subst u4
          have m3 : (X : Int) * (m.nodes - 1) = (n3 : Int) := by
            rw [HNn.out, u3, Int.natCast_mul, Int.natCast_sub hj1]
            rfl
          have m2 : (A : Int) * m.nodes = (n2 : Int) := by rw [HNn.out, u2, Int.natCast_mul]
          have hnn : m.nodes = (j : Int) := HNn.out
          have b2 : (n2 : Int) ≤ 8000 := by omega
          have b3 : (n3 : Int) ≤ 8000 := by omega
          have c1 : wr.cell? ⟨q, 1, none⟩ = some (.int .i64 (X : Int)) := HNb.out.row.c 1 _ rfl
          have c2 : wr.cell? ⟨q, 2, none⟩ = some (.int .i64 (n2 : Int)) := HNb.out.row.c 2 _ rfl
          have c3 : wr.cell? ⟨q, 3, none⟩ = some (.int .i64 (n3 : Int)) := HNb.out.row.c 3 _ rfl
          have c4 : wr.cell? ⟨q, 4, none⟩ = some (.int .i64 (2 * (m.masters.length : Int))) := by have := HNb.out.row.c 4 _ rfl; simpa using this
          have c5 : wr.cell? ⟨q, 5, none⟩ = some (.int .i64 m.nodes) := by rw [hnn]; exact HNb.out.row.c 5 _ rfl
          have hm4 : (m.masters.length : Int) ≤ 4 := by omega
          have nd1 : 1 ≤ m.nodes := by omega
          have nd8 : m.nodes ≤ 8 := by omega
          have HBf : Hid (Below W.heap.size W wr) := HXr.out.below
          clear u2 u3 v1 v2 v3 v4 v5 x16 a16 hl4 hnn q1 q2 q3 q4 q5 HNb HXr HSh HX16 HTt hN1 hN8 hj
          go_wp2
          go_ret
          exact ⟨rfl, HBf.out⟩
end Go.Proofs.YtlfhneiddfgoaaaDoor.planShares
