/- MatrixApart: one thing changed makes another matrix; for every matrix of few entries and every two bytes (other matrices are let by); no condition. -/
import Derived.Test.YthknkolnalobjaaDoorB4
import Derived.Test.YthknkolnalobjaaDoorB1
import Derived.Test.YthknkolnalobjaaDoorB3
import Derived.Test.YthknkolnalobjaaDoorSh
import Derived.ProofKit
import Derived.OpenShut
namespace Go.Proofs.YthknkolnalobjaaDoor.matrixApart
open Go.ChangeShapes Go.WideShapes Go.ChangeAt Go.RowKit
set_option linter.unusedVariables false
variable {Q : World → Prop}
abbrev TM : TypeId := 27
/-- A matrix in a block, another one in another block. -/
structure Ap (W w : World) (q : Nat) (m n : Mx.M) (a b : Ma) : Prop where
  bel : Below W.heap.size W w
  orig : MIn W m a
  rp : RowT TM w W.heap.size (mCs m a)
  rq : RowT TM w q (mCs n b)
  inn : MIn w n b
theorem Ap.mem {W w : World} {q : Nat} {m n : Mx.M} {a b : Ma} (h : Ap W w q m n a b) : MIn w m a := h.orig.on h.bel
theorem Ap.on {W w w' : World} {q : Nat} {m n : Mx.M} {a b : Ma} (h : Ap W w q m n a b) (hb : Below w.heap.size w w') : Ap W w' q m n a b := ⟨h.bel.trans (hb.mono h.bel.size), h.orig, h.rp.on hb, h.rq.on hb, h.inn.on hb⟩
theorem ty_ne' {w : World} {g g' : Nat} {c c' : Array Value} {t t' : TypeId} {f f' : Nat × Nat} (h : w.heap[g]? = some (.cells c t f)) (h' : w.heap[g']? = some (.cells c' t' f')) (ht : t ≠ t') : g ≠ g' := fun e => by
  subst e
  rw [h] at h'
  injection h' with h'
  injection h' with _ e
  exact ht e
/-- A word of the second one set. -/
theorem Ap.word {W w : World} {q : Nat} {m n n' : Mx.M} {a b : Ma} (h : Ap W w q m n a b) (hF : ∀ x, (0 < n.masters.length → b.s1 = some x → x.block ≠ q) ∧ (0 < n.messages.length → b.s2 = some x → x.block ≠ q) ∧ (0 < n.windows.length → b.s3 = some x → x.block ≠ q)) (hq : W.heap.size < q) (k : Nat) (v : Value) (hc : (mCs n b).setIfInBounds k v = mCs n' b) (e1 : n'.masters = n.masters) (e2 : n'.messages = n.messages) (e3 : n'.windows = n.windows) : Ap W (w.setCell ⟨q, k, none⟩ v) q m n' a b := by
  have hk : Kept (fun j => j = q) w (w.setCell ⟨q, k, none⟩ v) := Kept.set _ _ _ rfl
  refine ⟨h.bel.setCell (Nat.le_of_lt hq) _, h.orig, h.rp.kept hk (by omega), by rw [← hc]; exact h.rq.set k v, ⟨?_, ?_, ?_⟩⟩
  · rw [e1]; exact h.inn.l1.kept hk (fun x h0 hx => (hF x).1 h0 hx)
  · rw [e2]; exact h.inn.l2.kept hk (fun x h0 hx => (hF x).2.1 h0 hx)
  · rw [e3]; exact h.inn.l3.kept hk (fun x h0 hx => (hF x).2.2 h0 hx)
theorem elInt : Sg.El Tryd.prog 23 3 1 (.int .i64 0) 8 := ⟨Tryd.underlying23, by kernel_rfl, rfl, by decide⟩
theorem sl_of {w : World} {B : Nat} {m : Mx.M} {b : Ma} (h : LI w b.s1 b.c1 m.masters.length (m.masters.flatMap mC1)) (hF : Fresh B w m b) : Sg.SL w 1 b.s1 b.c1 m.masters.length (m.masters.flatMap mC1) := by
  have hlen : (m.masters.flatMap mC1).length = m.masters.length * 1 := by
    rw [Nat.mul_one]
    induction m.masters with
    | nil => rfl
    | cons x l ih => rw [List.flatMap_cons, List.length_append, ih]; simp [mC1]; omega
  refine ⟨h.1, h.2.1, hlen, ?_⟩
  by_cases h0 : b.c1 = 0
  · exact Or.inl h0
  · by_cases hr : m.masters.length < b.c1
    · obtain ⟨g, o, cur, e, hB, hh, hl⟩ := hF.r1 hr
      refine Or.inr ⟨g, o, e, (Array.getElem?_eq_some_iff.1 hh).1, ?_, fun j hj => ⟨?_, frozen_of_row _ _ _ _ _ hh⟩⟩
      · rcases h.2.2 with h1 | ⟨g', o', e', hg, hc⟩
        · intro k v hk
          have := (List.getElem?_eq_some_iff.1 hk).1
          rw [hlen, h1] at this
          omega
        · rw [e] at e'
          injection e' with e'
          injection e' with e1 e2
          subst e1 e2
          exact hc
      · rw [cell_of_row _ _ _ _ _ _ hh]
        exact Option.isSome_iff_exists.2 ⟨_, Array.getElem?_eq_getElem (by omega)⟩
    · have h1 := h.1
      obtain ⟨g, o, cur, e, hB, hh⟩ := hF.n1 (by omega)
      rcases h.2.2 with h2 | ⟨g', o', e', hg, hc⟩
      · omega
      · rw [e] at e'
        injection e' with e'
        injection e' with e1 e2
        subst e1 e2
        refine Or.inr ⟨g, o, e, hg, hc, fun j hj => ⟨?_, frozen_of_row _ _ _ _ _ hh⟩⟩
        rw [hc j _ (List.getElem?_eq_getElem (by omega))]
        rfl
theorem s1_apart {w : World} {B : Nat} {m : Mx.M} {b : Ma} (hF : Fresh B w m b) (hle : m.masters.length ≤ b.c1) (h0 : 0 < b.c1) : ∃ g o cur, b.s1 = some ⟨g, o, none⟩ ∧ B ≤ g ∧ w.heap[g]? = some (.cells cur 3 (0, 0)) := by
  by_cases hr : m.masters.length < b.c1
  · obtain ⟨g, o, cur, e, hB, hh, _⟩ := hF.r1 hr
    exact ⟨g, o, cur, e, hB, hh⟩
  · exact hF.n1 (by omega)
theorem ap_append {W w w6 : World} {q B : Nat} {m : Mx.M} {a b : Ma} {s' : Option Addr} {c' : Nat} (h : Ap W w q m m a b) (hF : Fresh B w m b) (hB : W.heap.size < B) (hq : W.heap.size < q) (hsl : Sg.SL w6 1 s' c' (m.masters.length + 1) (m.masters.flatMap mC1 ++ [.int .i64 3])) (hkp : Kept (fun g => 0 < b.c1 ∧ b.s1.map (·.block) = some g) w w6) (hs' : s' = b.s1 ∧ c' = b.c1 ∨ s' = some ⟨w.heap.size, 0, none⟩) :
    Ap W (w6.setCell ⟨q, 8, none⟩ (.slice s' (m.masters.length + 1) c')) q m { m with masters := m.masters ++ [3] } a { b with s1 := s', c1 := c' } ∧ w6.frozen? ⟨q, 8, none⟩ = false ∧ w6.cell? ⟨q, 8, none⟩ = some (.slice b.s1 m.masters.length b.c1) := by
  have ap := s1_apart hF h.inn.l1.1
  have hnq : ¬ (0 < b.c1 ∧ b.s1.map (·.block) = some q) := fun ⟨h0, e⟩ => by
    obtain ⟨g, o, cur, e', _, hh⟩ := ap h0
    rw [e'] at e
    injection e with e
    exact ty_ne' hh h.rq (by decide) e
  have hq6 : RowT TM w6 q (mCs m b) := h.rq.kept hkp hnq
  have hk8 : Kept (fun j => j = q) w6 (w6.setCell ⟨q, 8, none⟩ (.slice s' (m.masters.length + 1) c')) := Kept.set _ _ _ rfl
  have hb6 : Below W.heap.size W w6 := by
    have : Below W.heap.size w w6 := hkp.below (fun g ⟨h0, e⟩ => by
      obtain ⟨g', o, cur, e', hB', hh⟩ := ap h0
      rw [e'] at e
      injection e with e
      dsimp only at e
      omega) h.bel.size
    exact h.bel.trans this
  have hsq : ∀ x, 0 < m.masters.length + 1 → s' = some x → ¬ x.block = q := fun x _ hx e => by
    rcases hs' with ⟨e1, e2⟩ | e1
    · have h1 : 0 < b.c1 := by have := hsl.1; omega
      rw [e1] at hx
      exact hnq ⟨h1, by rw [hx]; exact congrArg some e⟩
    · rw [e1] at hx
      injection hx with hx
      subst hx
      have := h.rq.lt
      dsimp only at e
      omega
  refine ⟨⟨hb6.setCell (Nat.le_of_lt hq) _, h.orig, ?_, ?_, ⟨?_, ?_, ?_⟩⟩, hq6.f 8, hq6.c 8 _ rfl⟩
  · exact (h.rp.kept hkp (fun ⟨h0, e⟩ => by
      obtain ⟨g, o, cur, e', hB', hh⟩ := ap h0
      rw [e'] at e
      injection e with e
      dsimp only at e
      omega)).kept hk8 (by omega)
  · have e : (mCs m b).setIfInBounds 8 (.slice s' (m.masters.length + 1) c') = mCs { m with masters := m.masters ++ [3] } { b with s1 := s', c1 := c' } := by
      unfold mCs
      simp
    rw [← e]
    exact hq6.set 8 _
  · have hl : LI w6 s' c' (m.masters ++ [3]).length ((m.masters ++ [3]).flatMap mC1) := by
      have := hsl.li
      rw [List.length_append, List.flatMap_append]
      exact this
    exact hl.kept hk8 (fun x h0 hx => hsq x (by omega) hx)
  · refine (h.inn.l2.kept hkp (fun x h0 hx ⟨h1, e⟩ => ?_)).kept hk8 (fun x h0 hx e => ?_)
    · obtain ⟨g, o, cur, e', _, hh⟩ := ap h1
      obtain ⟨g2, o2, cur2, e2, _, hh2⟩ := hF.n2 h0
      rw [e'] at e
      injection e with e
      rw [hx] at e2
      injection e2 with e2
      subst e2
      exact ty_ne' hh hh2 (by decide) e
    · obtain ⟨g2, o2, cur2, e2, _, hh2⟩ := hF.n2 h0
      rw [hx] at e2
      injection e2 with e2
      subst e2
      exact ty_ne' hh2 h.rq (by decide) e
  · refine (h.inn.l3.kept hkp (fun x h0 hx ⟨h1, e⟩ => ?_)).kept hk8 (fun x h0 hx e => ?_)
    · obtain ⟨g, o, cur, e', _, hh⟩ := ap h1
      obtain ⟨g2, o2, cur2, e2, _, hh2⟩ := hF.n3 h0
      rw [e'] at e
      injection e with e
      rw [hx] at e2
      injection e2 with e2
      subst e2
      exact ty_ne' hh hh2 (by decide) e
    · obtain ⟨g2, o2, cur2, e2, _, hh2⟩ := hF.n3 h0
      rw [hx] at e2
      injection e2 with e2
      subst e2
      exact ty_ne' hh2 h.rq (by decide) e
theorem wrap_ne (x : Int) : x ≠ IntKind.i64.wrap (x + 1) := by
  rw [IntKind.wrap_i64]
  omega
theorem mod_nat {x l k : Nat} (hl : 0 < l) (hk : x % l = k) : (x : Int).tmod (l : Int) = (k : Int) ∧ (k : Int) < (l : Int) := by
  subst hk
  refine ⟨?_, by have := Nat.mod_lt x hl; omega⟩
  rw [Int.tmod_eq_emod_of_nonneg (by omega)]
  rfl
set_option maxRecDepth 100000 in
set_option maxHeartbeats 16000000 in
theorem walkA (hQ : ∀ w w', Q w → Below w.heap.size w w' → Q w') (S : MatSpec Q) (m : Mx.M) (a : Ma) {W0 : World} (hm : MIn W0 m a) (hwf : Mx.Wf m) (what : Nat) (hwh : what < 256) (at_ : Nat) (hat : at_ < 256) (W : World) (hw0 : W = W0) (hW : Q W) :
    Calls Tryd.prog 7 #[mV m a, .int .u8 (what : Int), .int .u8 (at_ : Int)] W fun e w' => e = .returned (.bool true) ∧ Below W.heap.size W w' := by
  subst hw0
  have HX : Hid (Bx W (W.alloc (.cells (mCs m a) 27)) W.heap.size m a) := Bx.mk' hm
  have HQ : Hid (∀ w, Below W.heap.size W w → Q w) := fun w hb => hQ W w hW hb
  have HK : Hid (∀ w, Below W.heap.size W w → Calls Tryd.prog 8 #[] w fun e w' => e = .returned (.bool true) ∧ Below w.heap.size w w') := fun w hb => known12_any hQ S w (HQ.out _ hb)
  have HWf : Hid (Mx.Wf m) := hwf
  have HO : Hid (MIn W m a) := hm
  have HY : Hid (∀ (m : Mx.M) (a : Ma) (p : Nat) (w : World), RowT 27 w p (mCs m a) → (w.cell? ⟨p, 0, none⟩ = some (.int .i64 m.level) ∧ w.cell? ⟨p, 1, none⟩ = some (.int .i64 m.nodes) ∧ w.cell? ⟨p, 2, none⟩ = some (.int .i64 m.cycles) ∧ w.cell? ⟨p, 3, none⟩ = some (.int .i64 m.length) ∧ w.cell? ⟨p, 4, none⟩ = some (.int .i64 m.enable) ∧ w.cell? ⟨p, 5, none⟩ = some (.int .i64 m.unit) ∧ w.cell? ⟨p, 6, none⟩ = some (.int .i64 m.init) ∧ w.cell? ⟨p, 7, none⟩ = some (.int .u32 (m.ref : Int)) ∧ w.cell? ⟨p, 8, none⟩ = some (.slice a.s1 m.masters.length a.c1) ∧ w.cell? ⟨p, 9, none⟩ = some (.slice a.s2 m.messages.length a.c2) ∧ w.cell? ⟨p, 10, none⟩ = some (.slice a.s3 m.windows.length a.c3))) := fun m a p w h => h.mat
  have HSame : Hid (∀ (w : World) (m n : Mx.M) (a b : Ma), Below W.heap.size W w → MIn w m a → MIn w n b → Mx.Small m → Mx.Small n → Mx.Wf m → Mx.Wf n → Calls Tryd.prog 15 #[mV m a, mV n b] w fun e w' => e = .returned (.bool (decide (m = n))) ∧ Below w.heap.size w w') := fun w m n a b hb => S.same w m n a b (HQ.out _ hb)
  have HRef : Hid (∀ (w : World) (m n : Mx.M) (a b : Ma), MIn w m a → MIn w n b → Mx.Small m → Mx.Small n → Calls Tryd.prog 16 #[mV m a, mV n b] w fun e w' => e = .returned (.bool (decide (m = n))) ∧ Below w.heap.size w w') := rsame_any
  have HCopy : Hid (∀ (w : World), Below W.heap.size W w → MIn w m a → Mx.Small m → Calls Tryd.prog 12 #[mV m a] w fun e w' => ∃ a', e = .returned (mV m a') ∧ MIn w' m a' ∧ Fresh w.heap.size w' m a' ∧ Below w.heap.size w w') := fun w hb hm hs => S.copy w m a (HQ.out _ hb) hm hs HWf.out
  obtain ⟨r, hr⟩ : ∃ r : Nat, (what : Int) % 6 = (r : Int) := ⟨what % 6, by omega⟩
  have hr' : (what : Int).tmod 6 = (r : Int) := by rw [Int.tmod_eq_emod_of_nonneg (by omega)]; exact hr
  have r6 : r < 6 := by omega
  have wi : (what : Int) < 256 := by omega
  have ai : (at_ : Int) < 256 := by omega
  clear hm hwf hQ hW hwh hat S
  go_enter Tryd.func7, Tryd.ntmps7
  go_wp2_with fail
  refine (HK.out _ HX.out.below).mono ?_
  rintro e w1 ⟨rfl, hb1⟩
  replace HX : Hid (Bx W w1 W.heap.size m a) := HX.out.on hb1
  clear hb1 HK
  obtain ⟨y0, y1, y2, y3, y4, y5, y6, y7, y8, y9, y10⟩ := HY.out m a _ _ HX.out.row
  go_wp2_with fail
  refine (few12_any w1 m a).mono ?_
  rintro e w2 ⟨rfl, hb2⟩
  replace HX : Hid (Bx W w2 W.heap.size m a) := HX.out.on hb2
  clear hb2 y0 y1 y2 y3 y4 y5 y6 y7 y8 y9 y10
  obtain ⟨y0, y1, y2, y3, y4, y5, y6, y7, y8, y9, y10⟩ := HY.out m a _ _ HX.out.row
  cases hfw : Mx.few m
  · go_wp2
    go_ret
    exact ⟨rfl, HX.out.below⟩
  have HS : Hid (Mx.Small m) := Mx.few_small hfw
  have HFew : Hid (m.masters.length ≤ 10) := by
    simp only [Mx.few, Bool.and_eq_true, decide_eq_true_eq] at hfw
    exact hfw.1.1
  go_wp2_with fail
  refine (HCopy.out _ HX.out.below HX.out.mem HS.out).mono ?_
  rintro e w3 ⟨b, rfl, hm3, hF3, hb3⟩
  have HB2 : Hid (W.heap.size < w2.heap.size) := HX.out.row.lt
  have HX3 : Hid (Bx W w3 W.heap.size m a) := HX.out.on hb3
  have HF3 : Hid (Fresh w2.heap.size w3 m b) := hF3
  have HM3 : Hid (MIn w3 m b) := hm3
  have H23 : Hid (w2.heap.size ≤ w3.heap.size) := hb3.size
  clear hb3 hF3 hm3 HX HCopy y0 y1 y2 y3 y4 y5 y6 y7 y8 y9 y10
  have HP4 : Hid (∀ o, RowT 27 (w3.alloc o) W.heap.size (mCs m a)) := fun o => HX3.out.row.on ((Below.refl _ _).alloc (Nat.le_refl _) _)
  have HZ : Hid (∀ o, ((w3.alloc o).cell? ⟨W.heap.size, 0, none⟩ = some (.int .i64 m.level) ∧ (w3.alloc o).cell? ⟨W.heap.size, 1, none⟩ = some (.int .i64 m.nodes) ∧ (w3.alloc o).cell? ⟨W.heap.size, 2, none⟩ = some (.int .i64 m.cycles) ∧ (w3.alloc o).cell? ⟨W.heap.size, 3, none⟩ = some (.int .i64 m.length) ∧ (w3.alloc o).cell? ⟨W.heap.size, 4, none⟩ = some (.int .i64 m.enable) ∧ (w3.alloc o).cell? ⟨W.heap.size, 5, none⟩ = some (.int .i64 m.unit) ∧ (w3.alloc o).cell? ⟨W.heap.size, 6, none⟩ = some (.int .i64 m.init) ∧ (w3.alloc o).cell? ⟨W.heap.size, 7, none⟩ = some (.int .u32 (m.ref : Int)) ∧ (w3.alloc o).cell? ⟨W.heap.size, 8, none⟩ = some (.slice a.s1 m.masters.length a.c1) ∧ (w3.alloc o).cell? ⟨W.heap.size, 9, none⟩ = some (.slice a.s2 m.messages.length a.c2) ∧ (w3.alloc o).cell? ⟨W.heap.size, 10, none⟩ = some (.slice a.s3 m.windows.length a.c3))) := fun o => HY.out m a _ _ (HP4.out o)
  obtain ⟨z0, z1, z2, z3, z4, z5, z6, z7, z8, z9, z10⟩ : ((∀ o, (w3.alloc o).cell? ⟨W.heap.size, 0, none⟩ = some (.int .i64 m.level)) ∧ (∀ o, (w3.alloc o).cell? ⟨W.heap.size, 1, none⟩ = some (.int .i64 m.nodes)) ∧ (∀ o, (w3.alloc o).cell? ⟨W.heap.size, 2, none⟩ = some (.int .i64 m.cycles)) ∧ (∀ o, (w3.alloc o).cell? ⟨W.heap.size, 3, none⟩ = some (.int .i64 m.length)) ∧ (∀ o, (w3.alloc o).cell? ⟨W.heap.size, 4, none⟩ = some (.int .i64 m.enable)) ∧ (∀ o, (w3.alloc o).cell? ⟨W.heap.size, 5, none⟩ = some (.int .i64 m.unit)) ∧ (∀ o, (w3.alloc o).cell? ⟨W.heap.size, 6, none⟩ = some (.int .i64 m.init)) ∧ (∀ o, (w3.alloc o).cell? ⟨W.heap.size, 7, none⟩ = some (.int .u32 (m.ref : Int))) ∧ (∀ o, (w3.alloc o).cell? ⟨W.heap.size, 8, none⟩ = some (.slice a.s1 m.masters.length a.c1)) ∧ (∀ o, (w3.alloc o).cell? ⟨W.heap.size, 9, none⟩ = some (.slice a.s2 m.messages.length a.c2)) ∧ (∀ o, (w3.alloc o).cell? ⟨W.heap.size, 10, none⟩ = some (.slice a.s3 m.windows.length a.c3))) := ⟨fun o => (HZ.out o).1, fun o => (HZ.out o).2.1, fun o => (HZ.out o).2.2.1, fun o => (HZ.out o).2.2.2.1, fun o => (HZ.out o).2.2.2.2.1, fun o => (HZ.out o).2.2.2.2.2.1, fun o => (HZ.out o).2.2.2.2.2.2.1, fun o => (HZ.out o).2.2.2.2.2.2.2.1, fun o => (HZ.out o).2.2.2.2.2.2.2.2.1, fun o => (HZ.out o).2.2.2.2.2.2.2.2.2.1, fun o => (HZ.out o).2.2.2.2.2.2.2.2.2.2⟩
  have eV : mV m b = .agg #[.int .i64 m.level, .int .i64 m.nodes, .int .i64 m.cycles, .int .i64 m.length, .int .i64 m.enable, .int .i64 m.unit, .int .i64 m.init, .int .u32 (m.ref : Int), .slice b.s1 m.masters.length b.c1, .slice b.s2 m.messages.length b.c2, .slice b.s3 m.windows.length b.c3] := rfl
  rw [eV]
  clear eV
  have HA4 : Hid (Ap W (w3.alloc (.cells (mCs m b) 27)) w3.heap.size m m a b) := by
    have hb : Below w3.heap.size w3 (w3.alloc (.cells (mCs m b) 27)) := (Below.refl _ _).alloc (Nat.le_refl _) _
    exact ⟨HX3.out.below.trans (hb.mono HX3.out.below.size), HO.out, HX3.out.row.on hb, RowT.new _ _ _, HM3.out.on hb⟩
  have HF4 : Hid (Fresh w2.heap.size (w3.alloc (.cells (mCs m b) 27)) m b) := Fresh.on HF3.out ((Below.refl _ _).alloc (Nat.le_refl _) _)
  clear HX3 HF3 HM3 HP4 HZ
  go_wp2_with fail
  refine (HSame.out _ m m a b HA4.out.bel HA4.out.mem HA4.out.inn HS.out HS.out HWf.out HWf.out).mono ?_
  rintro e w4 ⟨rfl, hb4⟩
  have HA5 : Hid (Ap W w4 w3.heap.size m m a b) := HA4.out.on hb4
  have HF5 : Hid (Fresh w2.heap.size w4 m b) := Fresh.on HF4.out hb4
  clear hb4 HA4 HF4 z0 z1 z2 z3 z4 z5 z6 z7 z8 z9 z10
  obtain ⟨q, hq⟩ : ∃ q, w3.heap.size = q := ⟨_, rfl⟩
  rw [hq] at HA5 H23 ⊢
  clear hq
  rw [show decide (m = m) = true from decide_eq_true rfl]
  obtain ⟨y0, y1, y2, y3, y4, y5, y6, y7, y8, y9, y10⟩ := HY.out m a _ _ HA5.out.rp
  obtain ⟨z0, z1, z2, z3, z4, z5, z6, z7, z8, z9, z10⟩ := HY.out m b _ _ HA5.out.rq
  go_wp2_with fail
  refine (HSame.out _ m m b a HA5.out.bel HA5.out.inn HA5.out.mem HS.out HS.out HWf.out HWf.out).mono ?_
  rintro e w5 ⟨rfl, hb5⟩
  have HA : Hid (Ap W w5 q m m a b) := HA5.out.on hb5
  have HF : Hid (Fresh w2.heap.size w5 m b) := Fresh.on HF5.out hb5
  clear hb5 HA5 HF5 y0 y1 y2 y3 y4 y5 y6 y7 y8 y9 y10 z0 z1 z2 z3 z4 z5 z6 z7 z8 z9 z10
  rw [show decide (m = m) = true from decide_eq_true rfl]
  have HNe : Hid (∀ x, (0 < m.masters.length → b.s1 = some x → x.block ≠ q) ∧ (0 < m.messages.length → b.s2 = some x → x.block ≠ q) ∧ (0 < m.windows.length → b.s3 = some x → x.block ≠ q)) := by
    refine fun x => ⟨fun h0 hx => ?_, fun h0 hx => ?_, fun h0 hx => ?_⟩
    · obtain ⟨g, o, cur, e, hB, hh⟩ := HF.out.n1 h0
      rw [hx] at e; injection e with e; subst e
      exact ty_ne' hh HA.out.rq (by decide)
    · obtain ⟨g, o, cur, e, hB, hh⟩ := HF.out.n2 h0
      rw [hx] at e; injection e with e; subst e
      exact ty_ne' hh HA.out.rq (by decide)
    · obtain ⟨g, o, cur, e, hB, hh⟩ := HF.out.n3 h0
      rw [hx] at e; injection e with e; subst e
      exact ty_ne' hh HA.out.rq (by decide)
  have HWq : Hid (W.heap.size < q) := Nat.lt_of_lt_of_le HB2.out H23.out
  obtain ⟨v0, v1, v2, v3, v4, v5, v6, v7, v8, v9, v10⟩ := HY.out m b _ _ HA.out.rq
  obtain rfl | rfl | rfl | rfl | rfl | rfl : r = 0 ∨ r = 1 ∨ r = 2 ∨ r = 3 ∨ r = 4 ∨ r = 5 := by omega
  · skip
    obtain ⟨V, hV⟩ : ∃ V, IntKind.i64.wrap (m.init + 1) = V := ⟨_, rfl⟩
    have hV' : wrap64 (m.init + 1) = V := (IntWalk.i64_left _).symm.trans hV
    have hne : m.init ≠ V := by rw [← hV]; exact wrap_ne m.init
    have HWv : Hid ((Lit.int .i64 V).wf = true) := by rw [← hV]; exact wf_wrap _ _
    clear hV
    have f6 := HA.out.rq.f 6
    have HE : Hid (Ap W (w5.setCell ⟨q, 6, none⟩ (.int .i64 V)) q m { m with init := V } a b) := HA.out.word HNe.out HWq.out 6 _ rfl rfl rfl rfl
    have HWn : Hid (Mx.Wf { m with init := V }) := ⟨HWf.out.level, HWf.out.nodes, HWf.out.cycles, HWf.out.length, HWf.out.enable, HWf.out.unit, HWv.out, HWf.out.ref, HWf.out.masters, HWf.out.messages, HWf.out.windows⟩
    have HSn : Hid (Mx.Small { m with init := V }) := ⟨HS.out.a, HS.out.b, HS.out.c⟩
    have HN : Hid (m ≠ { m with init := V }) := fun e => hne (congrArg Mx.M.init e)
    clear HA HF HNe hne
    generalize hn : ({ m with init := V } : Mx.M) = n at HE HWn HSn HN
    have hd : decide (m = n) = false := decide_eq_false HN.out
    obtain ⟨y0, y1, y2, y3, y4, y5, y6, y7, y8, y9, y10⟩ := HY.out m a _ _ HE.out.rp
    obtain ⟨z0, z1, z2, z3, z4, z5, z6, z7, z8, z9, z10⟩ := HY.out n b _ _ HE.out.rq
    go_wp2_with fail
    refine (HSame.out _ m n a b HE.out.bel HE.out.mem HE.out.inn HS.out HSn.out HWf.out HWn.out).mono ?_
    rintro e w7 ⟨rfl, hb7⟩
    have HE7 : Hid (Ap W w7 q m n a b) := HE.out.on hb7
    clear hb7 HE y0 y1 y2 y3 y4 y5 y6 y7 y8 y9 y10 z0 z1 z2 z3 z4 z5 z6 z7 z8 z9 z10 v0 v1 v2 v3 v4 v5 v6 v7 v8 v9 v10
    rw [hd]
    obtain ⟨y0, y1, y2, y3, y4, y5, y6, y7, y8, y9, y10⟩ := HY.out m a _ _ HE7.out.rp
    obtain ⟨z0, z1, z2, z3, z4, z5, z6, z7, z8, z9, z10⟩ := HY.out n b _ _ HE7.out.rq
    go_wp2_with fail
    refine (HRef.out _ m n a b HE7.out.mem HE7.out.inn HS.out HSn.out).mono ?_
    rintro e w8 ⟨rfl, hb8⟩
    have HB8 : Hid (Below W.heap.size W w8) := HE7.out.bel.trans (hb8.mono HE7.out.bel.size)
    clear hb8 HE7 y0 y1 y2 y3 y4 y5 y6 y7 y8 y9 y10 z0 z1 z2 z3 z4 z5 z6 z7 z8 z9 z10
    rw [hd]
    go_wp2
    go_ret
    exact ⟨rfl, HB8.out⟩
  · skip
    have hb6 : Below w5.heap.size w5 (w5.alloc (.cells #[.int .i64 3] 3)) := (Below.refl _ _).alloc (Nat.le_refl _) _
    have HA6 : Hid (Ap W (w5.alloc (.cells #[.int .i64 3] 3)) q m m a b) := HA.out.on hb6
    have HF6 : Hid (Fresh w2.heap.size (w5.alloc (.cells #[.int .i64 3] 3)) m b) := Fresh.on HF.out hb6
    have HSL : Hid (Sg.SL (w5.alloc (.cells #[.int .i64 3] 3)) 1 b.s1 b.c1 m.masters.length (m.masters.flatMap mC1)) := sl_of HA6.out.inn.l1 HF6.out
    have HSrc : Hid (Src Tryd.prog 1 23 (.slice (some ⟨w5.heap.size, 0, none⟩) 1 1) 1 [.int .i64 3] (w5.alloc (.cells #[.int .i64 3] 3))) := by
      refine Src.ofSlice _ Tryd.underlying23 _ 1 1 [.int .i64 3] (by simp) (fun j u hu => ?_) (fun u hu => by simp at hu; subst hu; rfl)
      rw [Sg.add_at, Nat.zero_add]
      refine (cell_of_row _ _ _ _ _ _ (heap_alloc_new w5 _)).trans ?_
      simpa using hu
    have HWn : Hid (Mx.Wf { m with masters := m.masters ++ [3] }) := ⟨HWf.out.level, HWf.out.nodes, HWf.out.cycles, HWf.out.length, HWf.out.enable, HWf.out.unit, HWf.out.init, HWf.out.ref, (fun y hy => (List.mem_append.1 hy).elim (HWf.out.masters y) (fun e => by obtain rfl := List.mem_singleton.1 e; rfl)), HWf.out.messages, HWf.out.windows⟩
    have HSn : Hid (Mx.Small { m with masters := m.masters ++ [3] }) := ⟨(by have := HFew.out; rw [List.length_append]; simp; omega), HS.out.b, HS.out.c⟩
    have HN : Hid (m ≠ { m with masters := m.masters ++ [3] }) := fun e => by
      have h1 := congrArg (fun z : Mx.M => z.masters.length) e
      simp at h1
    clear hb6 HF HNe HA
    go_wp2_with (refine Sg.wpList_append elInt rfl (.tmp 40) (.tmp 41) 23 rfl rfl rfl HSL.out HSrc.out (by have := HFew.out; omega) ?_; intro s' c' w6 hsl hkp hs'; obtain ⟨hE, f8, c8⟩ := ap_append HA6.out HF6.out HB2.out HWq.out hsl hkp hs'; have HE : Hid (Ap W (w6.setCell ⟨q, 8, none⟩ (.slice s' (m.masters.length + 1) c')) q m { m with masters := m.masters ++ [3] } a { b with s1 := s', c1 := c' }) := hE; clear hE hsl hkp hs'; obtain ⟨y0, y1, y2, y3, y4, y5, y6, y7, y8, y9, y10⟩ := HY.out m a _ _ HE.out.rp; obtain ⟨z0, z1, z2, z3, z4, z5, z6, z7, z8, z9, z10⟩ := HY.out _ _ _ _ HE.out.rq)
    have hd : decide (m = { m with masters := m.masters ++ [3] }) = false := decide_eq_false HN.out
    have eA : mV { m with masters := m.masters ++ [3] } { b with s1 := s', c1 := c' } = .agg #[.int .i64 m.level, .int .i64 m.nodes, .int .i64 m.cycles, .int .i64 m.length, .int .i64 m.enable, .int .i64 m.unit, .int .i64 m.init, .int .u32 (m.ref : Int), .slice s' (m.masters.length + 1) c', .slice b.s2 m.messages.length b.c2, .slice b.s3 m.windows.length b.c3] := by unfold mV mCs; simp
    have hS : Calls Tryd.prog 15 #[mV m a, .agg #[.int .i64 m.level, .int .i64 m.nodes, .int .i64 m.cycles, .int .i64 m.length, .int .i64 m.enable, .int .i64 m.unit, .int .i64 m.init, .int .u32 (m.ref : Int), .slice s' (m.masters.length + 1) c', .slice b.s2 m.messages.length b.c2, .slice b.s3 m.windows.length b.c3]] (w6.setCell ⟨q, 8, none⟩ (.slice s' (m.masters.length + 1) c')) (fun e w' => e = .returned (.bool false) ∧ Below (w6.setCell ⟨q, 8, none⟩ (.slice s' (m.masters.length + 1) c')).heap.size (w6.setCell ⟨q, 8, none⟩ (.slice s' (m.masters.length + 1) c')) w') := by
      have := HSame.out _ m _ a _ HE.out.bel HE.out.mem HE.out.inn HS.out HSn.out HWf.out HWn.out
      rw [hd, eA] at this
      exact this
    refine hS.mono ?_
    rintro e w7 ⟨rfl, hb7⟩
    have HE7 : Hid (Ap W w7 q m { m with masters := m.masters ++ [3] } a { b with s1 := s', c1 := c' }) := HE.out.on hb7
    clear hb7 HE y0 y1 y2 y3 y4 y5 y6 y7 y8 y9 y10 z0 z1 z2 z3 z4 z5 z6 z7 z8 z9 z10 v0 v1 v2 v3 v4 v5 v6 v7 v8 v9 v10 c8 f8 hS
    obtain ⟨y0, y1, y2, y3, y4, y5, y6, y7, y8, y9, y10⟩ := HY.out m a _ _ HE7.out.rp
    obtain ⟨z0, z1, z2, z3, z4, z5, z6, z7, z8, z9, z10⟩ := HY.out _ _ _ _ HE7.out.rq
    go_wp2_with fail
    have hS : Calls Tryd.prog 16 #[mV m a, .agg #[.int .i64 m.level, .int .i64 m.nodes, .int .i64 m.cycles, .int .i64 m.length, .int .i64 m.enable, .int .i64 m.unit, .int .i64 m.init, .int .u32 (m.ref : Int), .slice s' (m.masters.length + 1) c', .slice b.s2 m.messages.length b.c2, .slice b.s3 m.windows.length b.c3]] w7 (fun e w' => e = .returned (.bool false) ∧ Below w7.heap.size w7 w') := by
      have := HRef.out _ m _ a _ HE7.out.mem HE7.out.inn HS.out HSn.out
      rw [hd, eA] at this
      exact this
    refine hS.mono ?_
    rintro e w8 ⟨rfl, hb8⟩
    have HB8 : Hid (Below W.heap.size W w8) := HE7.out.bel.trans (hb8.mono HE7.out.bel.size)
    clear hb8 HE7 y0 y1 y2 y3 y4 y5 y6 y7 y8 y9 y10 z0 z1 z2 z3 z4 z5 z6 z7 z8 z9 z10
    go_wp2
    go_ret
    exact ⟨rfl, HB8.out⟩
  · skip
    by_cases h0 : m.messages.length = 0
    · have h0' : (m.messages.length : Int) = 0 := by omega
      have hB : Hid (Below W.heap.size W w5) := HA.out.bel
      clear HA HF HNe
      go_wp2
      go_ret
      exact ⟨rfl, hB.out⟩
    obtain ⟨l, hl⟩ : ∃ l, m.messages.length = l := ⟨_, rfl⟩
    rw [hl] at v9
    have hl0 : ((l : Int) == 0) = false := beq_eq_false_iff_ne.2 (by omega)
    go_wp2_with fail
    refine Lw.region_tail 22 (by kernel_rfl) (by kernel_rfl) ?_
    intro w6 hw6
    have HA6 : Hid (Ap W w6 q m m a b) := by subst hw6; exact HA.out.on (Below.refl _ _).drew
    have HF6 : Hid (Fresh w2.heap.size w6 m b) := by subst hw6; exact Fresh.on HF.out (Below.refl _ _).drew
    clear hw6 HA HF HNe v0 v1 v2 v3 v4 v5 v6 v7 v8 v9 v10
    have HA : Hid (Ap W w6 q m m a b) := HA6.out
    have HF : Hid (Fresh w2.heap.size w6 m b) := HF6.out
    clear HA6 HF6
    obtain ⟨v0, v1, v2, v3, v4, v5, v6, v7, v8, v9, v10⟩ := HY.out m b _ _ HA.out.rq
    obtain ⟨g, o, cur, hs, hB, hh⟩ := HF.out.n2 (by omega)
    obtain ⟨k, hk⟩ : ∃ k, at_ % l = k := ⟨_, rfl⟩
    obtain ⟨hk1, hk2⟩ := mod_nat (by omega) hk
    have hl1 : ¬ (l = 0) := by omega
    have hat : IntKind.i64.wrap (at_ : Int) = (at_ : Int) := by rw [IntKind.wrap_i64]; omega
    have hkl : k < m.messages.length := by omega
    obtain ⟨x, hx⟩ : ∃ x, m.messages[k]? = some x := ⟨_, List.getElem?_eq_getElem hkl⟩
    have HLI : Hid (LI w6 (some ⟨g, o, none⟩) b.c2 m.messages.length (m.messages.flatMap mC2)) := by have := HA.out.inn.l2; rw [hs] at this; exact this
    rw [hs, hl] at v9
    have HV9 : Hid (RowT 27 w6 q (mCs m b)) := HA.out.rq
    have cx : w6.cell? ⟨g, o + k * 3 + 2, none⟩ = some (.bool x.event) := by
      obtain ⟨g', o', e, _, hc⟩ := HLI.out.at (sz := 3) (fun _ => rfl) k x hx
      injection e with e
      injection e with e1 e2
      subst e1 e2
      have := hc 2 _ rfl
      rwa [← Nat.add_assoc] at this
    have fx : w6.frozen? ⟨g, o + k * 3 + 2, none⟩ = false := frozen_of_row _ _ _ _ _ hh
    have hgq : g ≠ q := ty_ne' hh HA.out.rq (by decide)
    have hgW : W.heap.size < g := Nat.lt_of_lt_of_le HB2.out hB
    have HE : Hid (Ap W (w6.setCell ⟨g, o + k * 3 + 2, none⟩ (.bool (!x.event))) q m { m with messages := m.messages.set k { x with event := !x.event } } a b) := by
      have hk' : Kept (fun j => j = g) w6 (w6.setCell ⟨g, o + k * 3 + 2, none⟩ (.bool (!x.event))) := Kept.set _ _ _ rfl
      have hset : LI (w6.setCell ⟨g, o + k * 3 + 2, none⟩ (.bool (!x.event))) b.s2 b.c2 (m.messages.set k { x with event := !x.event }).length ((m.messages.set k { x with event := !x.event }).flatMap mC2) := by
        have := HLI.out.setAt (sz := 3) (fun _ => rfl) k 2 x { x with event := !x.event } hx (.bool (!x.event)) rfl (by decide)
        rw [hs]
        rwa [← Nat.add_assoc] at this
      refine ⟨HA.out.bel.setCell (Nat.le_of_lt hgW) _, HO.out, HA.out.rp.kept hk' (by omega), ?_, ⟨?_, hset, ?_⟩⟩
      · have : mCs { m with messages := m.messages.set k { x with event := !x.event } } b = mCs m b := by unfold mCs; rw [List.length_set]
        rw [this]
        exact HA.out.rq.kept hk' (fun e => hgq e.symm)
      · refine HA.out.inn.l1.kept hk' (fun y h1 hy e => ?_)
        obtain ⟨g', o', cur', e', _, hh'⟩ := HF.out.n1 h1
        rw [hy] at e'; injection e' with e'; subst e'
        exact ty_ne' hh' hh (by decide) e
      · refine HA.out.inn.l3.kept hk' (fun y h1 hy e => ?_)
        obtain ⟨g', o', cur', e', _, hh'⟩ := HF.out.n3 h1
        rw [hy] at e'; injection e' with e'; subst e'
        exact ty_ne' hh' hh (by decide) e
    have HWn : Hid (Mx.Wf { m with messages := m.messages.set k { x with event := !x.event } }) := ⟨HWf.out.level, HWf.out.nodes, HWf.out.cycles, HWf.out.length, HWf.out.enable, HWf.out.unit, HWf.out.init, HWf.out.ref, HWf.out.masters, (fun y hy => (List.mem_or_eq_of_mem_set hy).elim (HWf.out.messages y) (fun e => by rw [e]; exact ⟨(HWf.out.messages x (List.mem_of_getElem? hx)).1, (HWf.out.messages x (List.mem_of_getElem? hx)).2⟩)), HWf.out.windows⟩
    have HSn : Hid (Mx.Small { m with messages := m.messages.set k { x with event := !x.event } }) := ⟨HS.out.a, (by rw [List.length_set]; exact HS.out.b), HS.out.c⟩
    have HN : Hid (m ≠ { m with messages := m.messages.set k { x with event := !x.event } }) := fun e => by
      have h1 := congrArg (fun z : Mx.M => z.messages[k]?) e
      simp only [hx, List.getElem?_set_self hkl] at h1
      injection h1 with h1
      exact absurd h1 (by intro e; have := congrArg Mx.Msg.event e; simp at this)
    clear HA HF 
    generalize hn : ({ m with messages := m.messages.set k { x with event := !x.event } } : Mx.M) = n at HE HWn HSn HN
    clear hn hh hs hB hk hx hkl HLI hgq hgW h0 hl HV9
    simp only [List.take_succ_cons, List.take_zero, List.drop_succ_cons, List.drop_zero]
    repeat (first | still_step)
    refine wpStill_nil ?_
    have hd : decide (m = n) = false := decide_eq_false HN.out
    obtain ⟨y0, y1, y2, y3, y4, y5, y6, y7, y8, y9, y10⟩ := HY.out m a _ _ HE.out.rp
    obtain ⟨z0, z1, z2, z3, z4, z5, z6, z7, z8, z9, z10⟩ := HY.out n b _ _ HE.out.rq
    go_wp2_with fail
    refine (HSame.out _ m n a b HE.out.bel HE.out.mem HE.out.inn HS.out HSn.out HWf.out HWn.out).mono ?_
    rintro e w7 ⟨rfl, hb7⟩
    have HE7 : Hid (Ap W w7 q m n a b) := HE.out.on hb7
    clear hb7 HE y0 y1 y2 y3 y4 y5 y6 y7 y8 y9 y10 z0 z1 z2 z3 z4 z5 z6 z7 z8 z9 z10 v0 v1 v2 v3 v4 v5 v6 v7 v8 v9 v10
    rw [hd]
    obtain ⟨y0, y1, y2, y3, y4, y5, y6, y7, y8, y9, y10⟩ := HY.out m a _ _ HE7.out.rp
    obtain ⟨z0, z1, z2, z3, z4, z5, z6, z7, z8, z9, z10⟩ := HY.out n b _ _ HE7.out.rq
    go_wp2_with fail
    refine (HRef.out _ m n a b HE7.out.mem HE7.out.inn HS.out HSn.out).mono ?_
    rintro e w8 ⟨rfl, hb8⟩
    have HB8 : Hid (Below W.heap.size W w8) := HE7.out.bel.trans (hb8.mono HE7.out.bel.size)
    clear hb8 HE7 y0 y1 y2 y3 y4 y5 y6 y7 y8 y9 y10 z0 z1 z2 z3 z4 z5 z6 z7 z8 z9 z10
    rw [hd]
    go_wp2
    go_ret
    exact ⟨rfl, HB8.out⟩
  · skip
    by_cases h0 : m.windows.length = 0
    · have h0' : (m.windows.length : Int) = 0 := by omega
      have hB : Hid (Below W.heap.size W w5) := HA.out.bel
      clear HA HF HNe
      go_wp2
      go_ret
      exact ⟨rfl, hB.out⟩
    obtain ⟨l, hl⟩ : ∃ l, m.windows.length = l := ⟨_, rfl⟩
    rw [hl] at v10
    have hl0 : ((l : Int) == 0) = false := beq_eq_false_iff_ne.2 (by omega)
    go_wp2_with fail
    refine Lw.region_tail 14 (by kernel_rfl) (by kernel_rfl) ?_
    intro w6 hw6
    have HA6 : Hid (Ap W w6 q m m a b) := by subst hw6; exact HA.out.on (Below.refl _ _).drew
    have HF6 : Hid (Fresh w2.heap.size w6 m b) := by subst hw6; exact Fresh.on HF.out (Below.refl _ _).drew
    clear hw6 HA HF HNe v0 v1 v2 v3 v4 v5 v6 v7 v8 v9 v10
    have HA : Hid (Ap W w6 q m m a b) := HA6.out
    have HF : Hid (Fresh w2.heap.size w6 m b) := HF6.out
    clear HA6 HF6
    obtain ⟨v0, v1, v2, v3, v4, v5, v6, v7, v8, v9, v10⟩ := HY.out m b _ _ HA.out.rq
    obtain ⟨g, o, cur, hs, hB, hh⟩ := HF.out.n3 (by omega)
    obtain ⟨k, hk⟩ : ∃ k, at_ % l = k := ⟨_, rfl⟩
    obtain ⟨hk1, hk2⟩ := mod_nat (by omega) hk
    have hl1 : ¬ (l = 0) := by omega
    have hat : IntKind.i64.wrap (at_ : Int) = (at_ : Int) := by rw [IntKind.wrap_i64]; omega
    have hkl : k < m.windows.length := by omega
    obtain ⟨x, hx⟩ : ∃ x, m.windows[k]? = some x := ⟨_, List.getElem?_eq_getElem hkl⟩
    have HLI : Hid (LI w6 (some ⟨g, o, none⟩) b.c3 m.windows.length (m.windows.flatMap mC3)) := by have := HA.out.inn.l3; rw [hs] at this; exact this
    rw [hs, hl] at v10
    have HV10 : Hid (RowT 27 w6 q (mCs m b)) := HA.out.rq
    obtain ⟨V, hV⟩ : ∃ V, IntKind.i64.wrap (x.msg + 1) = V := ⟨_, rfl⟩
    have hV' : wrap64 (x.msg + 1) = V := (IntWalk.i64_left _).symm.trans hV
    have hne : x.msg ≠ V := by rw [← hV]; exact wrap_ne _
    have HWv : Hid ((Lit.int .i64 V).wf = true) := by rw [← hV]; exact wf_wrap _ _
    clear hV
    have cx : w6.cell? ⟨g, o + k * 6 + 5, none⟩ = some (.int .i64 x.msg) := by
      obtain ⟨g', o', e, _, hc⟩ := HLI.out.at (sz := 6) (fun _ => rfl) k x hx
      injection e with e
      injection e with e1 e2
      subst e1 e2
      have := hc 5 _ rfl
      rwa [← Nat.add_assoc] at this
    have fx : w6.frozen? ⟨g, o + k * 6 + 5, none⟩ = false := frozen_of_row _ _ _ _ _ hh
    have hgq : g ≠ q := ty_ne' hh HA.out.rq (by decide)
    have hgW : W.heap.size < g := Nat.lt_of_lt_of_le HB2.out hB
    have HE : Hid (Ap W (w6.setCell ⟨g, o + k * 6 + 5, none⟩ (.int .i64 V)) q m { m with windows := m.windows.set k { x with msg := V } } a b) := by
      have hk' : Kept (fun j => j = g) w6 (w6.setCell ⟨g, o + k * 6 + 5, none⟩ (.int .i64 V)) := Kept.set _ _ _ rfl
      have hset : LI (w6.setCell ⟨g, o + k * 6 + 5, none⟩ (.int .i64 V)) b.s3 b.c3 (m.windows.set k { x with msg := V }).length ((m.windows.set k { x with msg := V }).flatMap mC3) := by
        have := HLI.out.setAt (sz := 6) (fun _ => rfl) k 5 x { x with msg := V } hx (.int .i64 V) rfl (by decide)
        rw [hs]
        rwa [← Nat.add_assoc] at this
      refine ⟨HA.out.bel.setCell (Nat.le_of_lt hgW) _, HO.out, HA.out.rp.kept hk' (by omega), ?_, ⟨?_, ?_, hset⟩⟩
      · have : mCs { m with windows := m.windows.set k { x with msg := V } } b = mCs m b := by unfold mCs; rw [List.length_set]
        rw [this]
        exact HA.out.rq.kept hk' (fun e => hgq e.symm)
      · refine HA.out.inn.l1.kept hk' (fun y h1 hy e => ?_)
        obtain ⟨g', o', cur', e', _, hh'⟩ := HF.out.n1 h1
        rw [hy] at e'; injection e' with e'; subst e'
        exact ty_ne' hh' hh (by decide) e
      · refine HA.out.inn.l2.kept hk' (fun y h1 hy e => ?_)
        obtain ⟨g', o', cur', e', _, hh'⟩ := HF.out.n2 h1
        rw [hy] at e'; injection e' with e'; subst e'
        exact ty_ne' hh' hh (by decide) e
    have HWn : Hid (Mx.Wf { m with windows := m.windows.set k { x with msg := V } }) := ⟨HWf.out.level, HWf.out.nodes, HWf.out.cycles, HWf.out.length, HWf.out.enable, HWf.out.unit, HWf.out.init, HWf.out.ref, HWf.out.masters, HWf.out.messages, (fun y hy => (List.mem_or_eq_of_mem_set hy).elim (HWf.out.windows y) (fun e => by rw [e]; exact (have hq := HWf.out.windows x (List.mem_of_getElem? hx); ⟨hq.1, hq.2.1, hq.2.2.1, hq.2.2.2.1, hq.2.2.2.2.1, HWv.out⟩)))⟩
    have HSn : Hid (Mx.Small { m with windows := m.windows.set k { x with msg := V } }) := ⟨HS.out.a, HS.out.b, (by rw [List.length_set]; exact HS.out.c)⟩
    have HN : Hid (m ≠ { m with windows := m.windows.set k { x with msg := V } }) := fun e => by
      have h1 := congrArg (fun z : Mx.M => z.windows[k]?) e
      simp only [hx, List.getElem?_set_self hkl] at h1
      injection h1 with h1
      exact absurd h1 (fun e => hne (congrArg Mx.Win.msg e))
    clear HA HF hne
    generalize hn : ({ m with windows := m.windows.set k { x with msg := V } } : Mx.M) = n at HE HWn HSn HN
    clear hn hh hs hB hk hx hkl HLI hgq hgW h0 hl HV10
    simp only [List.take_succ_cons, List.take_zero, List.drop_succ_cons, List.drop_zero]
    repeat (first | still_step)
    refine wpStill_nil ?_
    have hd : decide (m = n) = false := decide_eq_false HN.out
    obtain ⟨y0, y1, y2, y3, y4, y5, y6, y7, y8, y9, y10⟩ := HY.out m a _ _ HE.out.rp
    obtain ⟨z0, z1, z2, z3, z4, z5, z6, z7, z8, z9, z10⟩ := HY.out n b _ _ HE.out.rq
    go_wp2_with fail
    refine (HSame.out _ m n a b HE.out.bel HE.out.mem HE.out.inn HS.out HSn.out HWf.out HWn.out).mono ?_
    rintro e w7 ⟨rfl, hb7⟩
    have HE7 : Hid (Ap W w7 q m n a b) := HE.out.on hb7
    clear hb7 HE y0 y1 y2 y3 y4 y5 y6 y7 y8 y9 y10 z0 z1 z2 z3 z4 z5 z6 z7 z8 z9 z10 v0 v1 v2 v3 v4 v5 v6 v7 v8 v9 v10
    rw [hd]
    obtain ⟨y0, y1, y2, y3, y4, y5, y6, y7, y8, y9, y10⟩ := HY.out m a _ _ HE7.out.rp
    obtain ⟨z0, z1, z2, z3, z4, z5, z6, z7, z8, z9, z10⟩ := HY.out n b _ _ HE7.out.rq
    go_wp2_with fail
    refine (HRef.out _ m n a b HE7.out.mem HE7.out.inn HS.out HSn.out).mono ?_
    rintro e w8 ⟨rfl, hb8⟩
    have HB8 : Hid (Below W.heap.size W w8) := HE7.out.bel.trans (hb8.mono HE7.out.bel.size)
    clear hb8 HE7 y0 y1 y2 y3 y4 y5 y6 y7 y8 y9 y10 z0 z1 z2 z3 z4 z5 z6 z7 z8 z9 z10
    rw [hd]
    go_wp2
    go_ret
    exact ⟨rfl, HB8.out⟩
  · skip
    by_cases h0 : m.masters.length = 0
    · have h0' : (m.masters.length : Int) = 0 := by omega
      have hB : Hid (Below W.heap.size W w5) := HA.out.bel
      clear HA HF HNe
      go_wp2
      go_ret
      exact ⟨rfl, hB.out⟩
    obtain ⟨l, hl⟩ : ∃ l, m.masters.length = l := ⟨_, rfl⟩
    rw [hl] at v8
    have hl0 : ((l : Int) == 0) = false := beq_eq_false_iff_ne.2 (by omega)
    go_wp2_with fail
    refine Lw.region_tail 12 (by kernel_rfl) (by kernel_rfl) ?_
    intro w6 hw6
    have HA6 : Hid (Ap W w6 q m m a b) := by subst hw6; exact HA.out.on (Below.refl _ _).drew
    have HF6 : Hid (Fresh w2.heap.size w6 m b) := by subst hw6; exact Fresh.on HF.out (Below.refl _ _).drew
    clear hw6 HA HF HNe v0 v1 v2 v3 v4 v5 v6 v7 v8 v9 v10
    have HA : Hid (Ap W w6 q m m a b) := HA6.out
    have HF : Hid (Fresh w2.heap.size w6 m b) := HF6.out
    clear HA6 HF6
    obtain ⟨v0, v1, v2, v3, v4, v5, v6, v7, v8, v9, v10⟩ := HY.out m b _ _ HA.out.rq
    obtain ⟨g, o, cur, hs, hB, hh⟩ := HF.out.n1 (by omega)
    obtain ⟨k, hk⟩ : ∃ k, at_ % l = k := ⟨_, rfl⟩
    obtain ⟨hk1, hk2⟩ := mod_nat (by omega) hk
    have hl1 : ¬ (l = 0) := by omega
    have hat : IntKind.i64.wrap (at_ : Int) = (at_ : Int) := by rw [IntKind.wrap_i64]; omega
    have hkl : k < m.masters.length := by omega
    obtain ⟨x, hx⟩ : ∃ x, m.masters[k]? = some x := ⟨_, List.getElem?_eq_getElem hkl⟩
    have HLI : Hid (LI w6 (some ⟨g, o, none⟩) b.c1 m.masters.length (m.masters.flatMap mC1)) := by have := HA.out.inn.l1; rw [hs] at this; exact this
    rw [hs, hl] at v8
    have HV8 : Hid (RowT 27 w6 q (mCs m b)) := HA.out.rq
    obtain ⟨V, hV⟩ : ∃ V, IntKind.i64.wrap (x + 1) = V := ⟨_, rfl⟩
    have hV' : wrap64 (x + 1) = V := (IntWalk.i64_left _).symm.trans hV
    have hne : x ≠ V := by rw [← hV]; exact wrap_ne _
    have HWv : Hid ((Lit.int .i64 V).wf = true) := by rw [← hV]; exact wf_wrap _ _
    clear hV
    have cx : w6.cell? ⟨g, o + k, none⟩ = some (.int .i64 x) := by
      obtain ⟨g', o', e, _, hc⟩ := HLI.out.at (sz := 1) (fun _ => rfl) k x hx
      injection e with e
      injection e with e1 e2
      subst e1 e2
      have := hc 0 _ rfl
      rwa [Nat.mul_one, Nat.add_zero] at this
    have fx : w6.frozen? ⟨g, o + k, none⟩ = false := frozen_of_row _ _ _ _ _ hh
    have hgq : g ≠ q := ty_ne' hh HA.out.rq (by decide)
    have hgW : W.heap.size < g := Nat.lt_of_lt_of_le HB2.out hB
    have HE : Hid (Ap W (w6.setCell ⟨g, o + k, none⟩ (.int .i64 V)) q m { m with masters := m.masters.set k V } a b) := by
      have hk' : Kept (fun j => j = g) w6 (w6.setCell ⟨g, o + k, none⟩ (.int .i64 V)) := Kept.set _ _ _ rfl
      have hset : LI (w6.setCell ⟨g, o + k, none⟩ (.int .i64 V)) b.s1 b.c1 (m.masters.set k V).length ((m.masters.set k V).flatMap mC1) := by
        have := HLI.out.setAt (sz := 1) (fun _ => rfl) k 0 x V hx (.int .i64 V) rfl (by decide)
        rw [hs]
        rwa [Nat.mul_one, Nat.add_zero] at this
      refine ⟨HA.out.bel.setCell (Nat.le_of_lt hgW) _, HO.out, HA.out.rp.kept hk' (by omega), ?_, ⟨hset, ?_, ?_⟩⟩
      · have : mCs { m with masters := m.masters.set k V } b = mCs m b := by unfold mCs; rw [List.length_set]
        rw [this]
        exact HA.out.rq.kept hk' (fun e => hgq e.symm)
      · refine HA.out.inn.l2.kept hk' (fun y h1 hy e => ?_)
        obtain ⟨g', o', cur', e', _, hh'⟩ := HF.out.n2 h1
        rw [hy] at e'; injection e' with e'; subst e'
        exact ty_ne' hh' hh (by decide) e
      · refine HA.out.inn.l3.kept hk' (fun y h1 hy e => ?_)
        obtain ⟨g', o', cur', e', _, hh'⟩ := HF.out.n3 h1
        rw [hy] at e'; injection e' with e'; subst e'
        exact ty_ne' hh' hh (by decide) e
    have HWn : Hid (Mx.Wf { m with masters := m.masters.set k V }) := ⟨HWf.out.level, HWf.out.nodes, HWf.out.cycles, HWf.out.length, HWf.out.enable, HWf.out.unit, HWf.out.init, HWf.out.ref, (fun y hy => (List.mem_or_eq_of_mem_set hy).elim (HWf.out.masters y) (fun e => by rw [e]; exact HWv.out)), HWf.out.messages, HWf.out.windows⟩
    have HSn : Hid (Mx.Small { m with masters := m.masters.set k V }) := ⟨(by rw [List.length_set]; exact HS.out.a), HS.out.b, HS.out.c⟩
    have HN : Hid (m ≠ { m with masters := m.masters.set k V }) := fun e => by
      have h1 := congrArg (fun z : Mx.M => z.masters[k]?) e
      simp only [hx, List.getElem?_set_self hkl] at h1
      injection h1 with h1
      exact absurd h1 hne
    clear HA HF hne
    generalize hn : ({ m with masters := m.masters.set k V } : Mx.M) = n at HE HWn HSn HN
    clear hn hh hs hB hk hx hkl HLI hgq hgW h0 hl HV8
    simp only [List.take_succ_cons, List.take_zero, List.drop_succ_cons, List.drop_zero]
    repeat (first | still_step)
    refine wpStill_nil ?_
    have hd : decide (m = n) = false := decide_eq_false HN.out
    obtain ⟨y0, y1, y2, y3, y4, y5, y6, y7, y8, y9, y10⟩ := HY.out m a _ _ HE.out.rp
    obtain ⟨z0, z1, z2, z3, z4, z5, z6, z7, z8, z9, z10⟩ := HY.out n b _ _ HE.out.rq
    go_wp2_with fail
    refine (HSame.out _ m n a b HE.out.bel HE.out.mem HE.out.inn HS.out HSn.out HWf.out HWn.out).mono ?_
    rintro e w7 ⟨rfl, hb7⟩
    have HE7 : Hid (Ap W w7 q m n a b) := HE.out.on hb7
    clear hb7 HE y0 y1 y2 y3 y4 y5 y6 y7 y8 y9 y10 z0 z1 z2 z3 z4 z5 z6 z7 z8 z9 z10 v0 v1 v2 v3 v4 v5 v6 v7 v8 v9 v10
    rw [hd]
    obtain ⟨y0, y1, y2, y3, y4, y5, y6, y7, y8, y9, y10⟩ := HY.out m a _ _ HE7.out.rp
    obtain ⟨z0, z1, z2, z3, z4, z5, z6, z7, z8, z9, z10⟩ := HY.out n b _ _ HE7.out.rq
    go_wp2_with fail
    refine (HRef.out _ m n a b HE7.out.mem HE7.out.inn HS.out HSn.out).mono ?_
    rintro e w8 ⟨rfl, hb8⟩
    have HB8 : Hid (Below W.heap.size W w8) := HE7.out.bel.trans (hb8.mono HE7.out.bel.size)
    clear hb8 HE7 y0 y1 y2 y3 y4 y5 y6 y7 y8 y9 y10 z0 z1 z2 z3 z4 z5 z6 z7 z8 z9 z10
    rw [hd]
    go_wp2
    go_ret
    exact ⟨rfl, HB8.out⟩
  · skip
    obtain ⟨V, hV⟩ : ∃ V : Nat, IntKind.u32.wrap ((m.ref : Int) + 8) = (V : Int) := ⟨((m.ref : Int) + 8).toNat % 4294967296, by rw [IntKind.wrap_u32]; omega⟩
    have hne : m.ref ≠ V := fun e => by have := HWf.out.ref; rw [IntKind.wrap_u32] at hV; omega
    have HWv : Hid (V < 4294967296) := by show V < 4294967296; rw [IntKind.wrap_u32] at hV; omega
    have f7 := HA.out.rq.f 7
    have HE : Hid (Ap W (w5.setCell ⟨q, 7, none⟩ (.int .u32 (V : Int))) q m { m with ref := V } a b) := HA.out.word HNe.out HWq.out 7 _ rfl rfl rfl rfl
    have HWn : Hid (Mx.Wf { m with ref := V }) := ⟨HWf.out.level, HWf.out.nodes, HWf.out.cycles, HWf.out.length, HWf.out.enable, HWf.out.unit, HWf.out.init, HWv.out, HWf.out.masters, HWf.out.messages, HWf.out.windows⟩
    have HSn : Hid (Mx.Small { m with ref := V }) := ⟨HS.out.a, HS.out.b, HS.out.c⟩
    have HN : Hid (m ≠ { m with ref := V }) := fun e => hne (congrArg Mx.M.ref e)
    clear HA HF HNe hne
    generalize hn : ({ m with ref := V } : Mx.M) = n at HE HWn HSn HN
    have hd : decide (m = n) = false := decide_eq_false HN.out
    obtain ⟨y0, y1, y2, y3, y4, y5, y6, y7, y8, y9, y10⟩ := HY.out m a _ _ HE.out.rp
    obtain ⟨z0, z1, z2, z3, z4, z5, z6, z7, z8, z9, z10⟩ := HY.out n b _ _ HE.out.rq
    go_wp2_with fail
    refine (HSame.out _ m n a b HE.out.bel HE.out.mem HE.out.inn HS.out HSn.out HWf.out HWn.out).mono ?_
    rintro e w7 ⟨rfl, hb7⟩
    have HE7 : Hid (Ap W w7 q m n a b) := HE.out.on hb7
    clear hb7 HE y0 y1 y2 y3 y4 y5 y6 y7 y8 y9 y10 z0 z1 z2 z3 z4 z5 z6 z7 z8 z9 z10 v0 v1 v2 v3 v4 v5 v6 v7 v8 v9 v10
    rw [hd]
    obtain ⟨y0, y1, y2, y3, y4, y5, y6, y7, y8, y9, y10⟩ := HY.out m a _ _ HE7.out.rp
    obtain ⟨z0, z1, z2, z3, z4, z5, z6, z7, z8, z9, z10⟩ := HY.out n b _ _ HE7.out.rq
    go_wp2_with fail
    refine (HRef.out _ m n a b HE7.out.mem HE7.out.inn HS.out HSn.out).mono ?_
    rintro e w8 ⟨rfl, hb8⟩
    have HB8 : Hid (Below W.heap.size W w8) := HE7.out.bel.trans (hb8.mono HE7.out.bel.size)
    clear hb8 HE7 y0 y1 y2 y3 y4 y5 y6 y7 y8 y9 y10 z0 z1 z2 z3 z4 z5 z6 z7 z8 z9 z10
    rw [hd]
    go_wp2
    go_ret
    exact ⟨rfl, HB8.out⟩
end Go.Proofs.YthknkolnalobjaaDoor.matrixApart
