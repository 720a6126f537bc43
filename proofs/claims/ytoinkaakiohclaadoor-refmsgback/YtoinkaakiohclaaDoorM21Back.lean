/- RefmsgBack: of every matrix of few entries that passes, every rank, cycle, time, step, message and data of at most eight bytes (others are let by): a beat's frame is read as it was made; no message's frame is one; no condition. -/
import Derived.Test.YtoinkaakiohclaaDoorK21
import Derived.Test.YtoinkaakiohclaaDoorW21b
import Derived.Test.YtoinkaakiohclaaDoorL5
import Derived.Deep.CutBlock
import Derived.ProofKit
import Derived.OpenShut
namespace Go.Proofs.YtoinkaakiohclaaDoor
open Go.RowKit Go.WideShapes
set_option linter.unusedVariables false
/-- What package matrix is said to do here. -/
structure MatLk (Q : World → Prop) : Prop where
  find : ∀ (w : World) (m : Mx.M) (a : Ma) (ext rtr : Bool) (id : Nat) (d : ByteArray), Q w → MIn w m a → Mx.Small m → Mx.Wf m → id < 4294967296 → Ob.Looks Tryd.prog 14 #[mV m a, .agg #[.bool ext, .int .u32 (id : Int), .bool rtr, .string d]] w (.int .i64 (Mx.find m ext rtr id))
  frame : ∀ (w : World) (m : Mx.M) (a : Ma) (msg : Int) (d : ByteArray), Q w → MIn w m a → Mx.Small m → Mx.Wf m → (Lit.int .i64 msg).wf = true → d.size ≤ 1000 → Ob.Looks Tryd.prog 15 #[mV m a, .int .i64 msg, .string d] w (fVal (Mx.fid m msg d.size) d)
theorem below_row {w w' : World} (h : Below w.heap.size w w') {q : Nat} (hq : w.heap.size ≤ q) (cs : Array Value) : Below w.heap.size w (w'.setRow q cs) :=
  have hk : Kept (fun j => j = q) w' (w'.setRow q cs) := ⟨rfl, rfl, rfl, by simp [World.setRow], fun k _ hk => setRow_other w' q k _ hk⟩
  h.trans (hk.below (fun g e => e ▸ hq) h.size)
/-- A matrix that lies, and rows beside it. -/
structure Mr (W w : World) (p : Nat) (m : Mx.M) (a : Ma) (R : List (TypeId × Nat × Array Value)) : Prop where
  orig : MIn W m a
  bx : Bx W w p m a
  rows : ∀ x ∈ R, RowT x.1 w x.2.1 x.2.2
section
variable {W w w' : World} {p q : Nat} {m : Mx.M} {a : Ma} {R : List (TypeId × Nat × Array Value)} {T : TypeId} {cs : Array Value}
theorem Mr.on (h : Mr W w p m a R) (hb : Below w.heap.size w w') : Mr W w' p m a R := ⟨h.orig, h.bx.on hb, fun x hx => (h.rows x hx).on hb⟩
theorem Mr.al (h : Mr W w p m a R) (T : TypeId) (cs : Array Value) : Mr W (w.alloc (.cells cs T)) p m a ((T, w.heap.size, cs) :: R) :=
  ⟨h.orig, (h.on ((Below.refl _ _).alloc (Nat.le_refl _) _)).bx, fun x hx => by
    rcases List.mem_cons.1 hx with rfl | hx
    · exact RowT.new _ _ _
    · exact (h.on ((Below.refl _ _).alloc (Nat.le_refl _) _)).rows x hx⟩
theorem Mr.set (h : Mr W w p m a ((T, q, cs) :: R)) (hp : p ≠ q) (hR : ∀ x ∈ R, x.2.1 ≠ q) (hB : W.heap.size ≤ q) (k : Nat) (v : Value) : Mr W (w.setCell ⟨q, k, none⟩ v) p m a ((T, q, cs.setIfInBounds k v) :: R) := by
  have hk : Kept (fun j => j = q) w (w.setCell ⟨q, k, none⟩ v) := Kept.set _ _ _ rfl
  have hb : Below W.heap.size W (w.setCell ⟨q, k, none⟩ v) := h.bx.below.setCell hB _
  refine ⟨h.orig, ⟨h.bx.row.kept hk hp, h.orig.on hb, hb⟩, fun x hx => ?_⟩
  rcases List.mem_cons.1 hx with rfl | hx
  · exact (h.rows _ (List.mem_cons_self ..)).set k v
  · exact (h.rows x (List.mem_cons_of_mem _ hx)).kept hk (hR x hx)
theorem Mr.row {old : Array Value} (h : Mr W w p m a []) (hr : RowT T w q old) (hp : p ≠ q) (hB : W.heap.size ≤ q) (cs : Array Value) : Mr W (w.setRow q cs) p m a [(T, q, cs)] := by
  have hb : Below W.heap.size W (w.setRow q cs) := below_row h.bx.below hB cs
  refine ⟨h.orig, ⟨(setRow_other w q p cs hp).trans h.bx.row, h.orig.on hb, hb⟩, fun x hx => ?_⟩
  obtain rfl := List.mem_singleton.1 hx
  exact setRow_heap w q _ _ _ _ hr
/-- What is behind a store into a new block is still behind. -/
structure Bel8 (w8 w : World) (q : Nat) (cs : Array Value) : Prop where
  bel : Below w8.heap.size w8 w
theorem Bel8.of {w8 w : World} {q : Nat} {cs : Array Value} (h : Below w8.heap.size w8 w) : Bel8 w8 w q cs := ⟨h⟩
theorem Bel8.trans' {w8 w : World} {q : Nat} {cs : Array Value} (h : Bel8 w8 w q cs) (hq : w8.heap.size ≤ q) : Below w8.heap.size w8 (w.setRow q cs) := below_row h.bel hq cs
theorem finfo21 : (Tryd.prog.info? 30).map (·.size) = some 4 := by kernel_rfl
end
end Go.Proofs.YtoinkaakiohclaaDoor
namespace Go.Proofs.YtoinkaakiohclaaDoor.refmsgBack
open Go.ChangeShapes Go.WideShapes Go.ChangeAt Go.RowKit
set_option linter.unusedVariables false
variable {Q : World → Prop}
set_option maxRecDepth 100000 in
set_option maxHeartbeats 40000000 in
theorem walkA (hQ : ∀ w w', Q w → Below w.heap.size w w' → Q w') (S : RefSpec Q) (K : MatLk Q) (m : Mx.M) (a : Ma) (rk ck g : Nat) (dd : Bool) (ms : Nat) (d : ByteArray) {W0 : World} (hm : MIn W0 m a) (hwf : Mx.Wf m) (h1 : rk < 256) (h2 : ck < 256) (hg : g < 65536) (h3 : ms < 256) (W : World) (hw0 : W = W0) (hW : Q W) :
    Calls Tryd.prog 4 #[mV m a, .int .u8 (rk : Int), .int .u8 (ck : Int), .int .u16 (g : Int), .bool dd, .int .u8 (ms : Int), .string d] W fun e w' => e = .returned (.bool true) ∧ Below W.heap.size W w' := by
  subst hw0
  have HQ : Hid (∀ w, Below W.heap.size W w → Q w) := fun w hb => hQ W w hW hb
  have HK : Hid (∀ w, Below W.heap.size W w → Calls Tryd.prog 7 #[] w fun e w' => e = .returned (.bool true) ∧ Below w.heap.size w w') := fun w hb => known21_any hQ S w (HQ.out _ hb)
  have HWf : Hid (Mx.Wf m) := hwf
  have HOr : Hid (MIn W m a) := hm
  have HX : Hid (Bx W (W.alloc (.cells (mCs m a) 27)) W.heap.size m a) := Bx.mk' hm
  clear hm hwf hQ hW
  show Calls _ _ #[.agg (mCs m a), _, _, _, _, _, _] _ _
  go_enter Tryd.func4, Tryd.ntmps4
  go_upto_region 1 with fail
  generalize W.alloc (.cells (mCs m a) 27) = v at HX ⊢
  go_wp2_with fail
  refine (HK.out _ HX.out.below).mono ?_
  rintro e w1 ⟨rfl, hb⟩
  replace HX : Hid (Bx W w1 W.heap.size m a) := HX.out.on hb
  clear hb HK
  obtain ⟨y0, y1, y2, y3, y4, y5, y6, y7, y8, y9, y10⟩ := HX.out.row.mat
  go_wp2_with fail
  refine (few21_any w1 m a).mono ?_
  rintro e w2 ⟨rfl, hb⟩
  replace HX : Hid (Bx W w2 W.heap.size m a) := HX.out.on hb
  clear y0 y1 y10 y2 y3 y4 y5 y6 y7 y8 y9 hb
  cases hfw : Mx.few m
  · go_wp2
    go_ret
    exact ⟨rfl, HX.out.below⟩
  have HS : Hid (Mx.Small m) := Mx.few_small hfw
  clear hfw
  by_cases h8 : 8 < d.size
  · have h8i : (8 : Int) < (d.size : Int) := by omega
    clear h8
    go_wp2
    go_ret
    exact ⟨rfl, HX.out.below⟩
  have h8i : ¬ ((8 : Int) < (d.size : Int)) := by omega
  obtain ⟨y0, y1, y2, y3, y4, y5, y6, y7, y8, y9, y10⟩ := HX.out.row.mat
  go_wp2_with fail
  refine (rcheck_any w2 m a HX.out.mem HS.out HWf.out).mono ?_
  rintro e w3 ⟨rfl, hb⟩
  replace HX : Hid (Bx W w3 W.heap.size m a) := HX.out.on hb
  clear y0 y1 y10 y2 y3 y4 y5 y6 y7 y8 y9 hb
  by_cases e0 : (Lq.check m).2 = 0
  rotate_left
  · have e1 : ((Lq.check m).2 == 0) = false := beq_eq_false_iff_ne.2 e0
    generalize (Lq.check m).1 = C1 at *
    generalize (Lq.check m).2 = C2 at *
    go_wp2
    go_ret
    exact ⟨rfl, HX.out.below⟩
  have HP : Hid (Lq.Passes m) := Lq.passes_of e0
  rw [e0]
  generalize (Lq.check m).1 = C1 at *
  clear e0
  obtain ⟨rf1, rf2, ln4, ln1, cy1, cy8, lev⟩ := Q21.ref_of HP.out.is
  obtain ⟨r, hr⟩ : ∃ r, rk % m.masters.length = r := ⟨_, rfl⟩
  have hrl : r < m.masters.length := by rw [← hr]; exact Nat.mod_lt _ (by omega)
  have er : (rk : Int).tmod (m.masters.length : Int) = (r : Int) := by rw [Int.tmod_eq_emod_of_nonneg (by omega), ← hr]; exact (Int.natCast_emod _ _).symm
  obtain ⟨cy, hcy⟩ : ∃ cy : Nat, m.cycles = (cy : Int) := ⟨m.cycles.toNat, by omega⟩
  obtain ⟨c, hc⟩ : ∃ c, ck % cy = c := ⟨_, rfl⟩
  have hcl : (c : Int) < m.cycles := by
    have : c < cy := by rw [← hc]; exact Nat.mod_lt _ (by omega)
    omega
  have ec : (ck : Int).tmod m.cycles = (c : Int) := by rw [Int.tmod_eq_emod_of_nonneg (by omega), hcy, ← hc]; exact (Int.natCast_emod _ _).symm
  obtain ⟨D, hD8, hb1, hp1⟩ := Q21.back HP.out hrl hcl hg dd
  have hfi := Q21.no_find HP.out hrl
  obtain ⟨N, hN⟩ : ∃ N, m.ref + r = N := ⟨_, rfl⟩
  rw [hN] at hb1 hp1 hfi
  have hN32 : N < 4294967296 := by omega
  obtain ⟨G, hG⟩ : ∃ G, (if m.level = 2 then g else 0) = G := ⟨_, rfl⟩
  obtain ⟨E, hE⟩ : ∃ E, (if m.level = 2 then dd else false) = E := ⟨_, rfl⟩
  rw [hG, hE] at hp1
  have HBd : Hid (∀ w, Below W.heap.size W w → MIn w m a → Calls Tryd.prog 9 #[.agg (mCs m a), .int .i64 (r : Int), .int .i64 (c : Int), .int .u16 (g : Int), .bool dd] w fun e w' => e = .returned (.tuple #[.agg #[.bool false, .int .u32 (N : Int), .bool false, .string D], .bool true]) ∧ Below w.heap.size w w') := fun w hb hm => by have h := S.build w m a (r : Int) (c : Int) g dd (HQ.out _ hb) hm HS.out HWf.out (WalkArith.wf_i64 (by omega)) (WalkArith.wf_i64 (by omega)) hg; rw [hb1] at h; exact h
  have HPa : Hid (∀ w, Below W.heap.size W w → MIn w m a → Calls Tryd.prog 11 #[.agg (mCs m a), .agg #[.bool false, .int .u32 (N : Int), .bool false, .string D]] w fun e w' => e = .returned (.tuple #[.agg #[.int .i64 (r : Int), .int .i64 (c : Int), .int .u16 (G : Int), .bool E], .bool true]) ∧ Below w.heap.size w w') := fun w hb hm => by have h := S.parse w m a false N false D (HQ.out _ hb) hm HS.out HWf.out hN32 (by omega); rw [hp1] at h; exact h
  have HFi : Hid (∀ w, Below W.heap.size W w → MIn w m a → Calls Tryd.prog 14 #[.agg (mCs m a), .agg #[.bool false, .int .u32 (N : Int), .bool false, .string D]] w fun e w' => e = .returned (.int .i64 (-1)) ∧ Below w.heap.size w w') := fun w hb hm => by have h := K.find w m a false false N D (HQ.out _ hb) hm HS.out HWf.out hN32; rw [hfi] at h; exact h
  have HFr : Hid (∀ (j : Nat) x, m.messages[j]? = some x → ∀ w, Below W.heap.size W w → MIn w m a → Calls Tryd.prog 15 #[.agg (mCs m a), .int .i64 (j : Int), .string d] w fun e w' => e = .returned (.tuple #[.agg #[.bool false, .int .u32 (x.id : Int), .bool false, .string d], .bool true]) ∧ Below w.heap.size w w') := fun j x hx w hb hm => by
    have hj := (List.getElem?_eq_some_iff.1 hx).1
    have hb2 := HS.out.b
    have h := K.frame w m a (j : Int) d (HQ.out _ hb) hm HS.out HWf.out (WalkArith.wf_i64 (by omega)) (by omega)
    have : Mx.fid m (j : Int) d.size = some x.id := by unfold Mx.fid; rw [if_pos ⟨by omega, by omega⟩, Int.toNat_natCast, hx]; rfl
    rw [this] at h
    exact h
  have HPm : Hid (∀ (j : Nat) x, m.messages[j]? = some x → ∀ w, Below W.heap.size W w → MIn w m a → Calls Tryd.prog 11 #[.agg (mCs m a), .agg #[.bool false, .int .u32 (x.id : Int), .bool false, .string d]] w fun e w' => e = .returned (.tuple #[.agg #[.int .i64 0, .int .i64 0, .int .u16 0, .bool false], .bool false]) ∧ Below w.heap.size w w') := fun j x hx w hb hm => by
    have hid : x.id < 4294967296 := (HWf.out.messages x (List.mem_of_getElem? hx)).1
    have h := S.parse w m a false x.id false d (HQ.out _ hb) hm HS.out HWf.out hid (by omega)
    rw [Q21.no_beat HP.out hx] at h
    exact h
  have HG0 : Hid (∀ i, i < m.messages.length → ∃ x, m.messages[i]? = some x) := fun i hi => ⟨_, List.getElem?_eq_getElem hi⟩
  have hm1 : m.messages.length ≤ 1000 := HS.out.b
  have HM : Hid (Mr W w3 W.heap.size m a []) := ⟨HOr.out, HX.out, fun x hx => by cases hx⟩
  clear HX HS HWf HOr HP K S hb1 hp1 hfi hN rf1 rf2 hD8 HQ
  obtain ⟨y0, y1, y2, y3, y4, y5, y6, y7, y8, y9, y10⟩ := HM.out.bx.row.mat
  have HLv : Hid ((if m.level = 2 then g else 0) = G ∧ (if m.level = 2 then dd else false) = E) := ⟨hG, hE⟩
  clear hG hE
  have hn1 : ¬ ((m.masters.length : Int) = 0) := by omega
  have hn2 : ¬ (m.cycles = 0) := by omega
  have hn3 : ¬ ((m.masters.length : Int) = -1) := by omega
  have hn4 : ¬ (m.cycles = -1) := by omega
  clear hr hcy hc hcl hrl
  have rk8 : (rk : Int) ≤ 255 := by omega
  have ck8 : (ck : Int) ≤ 255 := by omega
  have HC : Hid (∀ w', Below w3.heap.size w3 w' → w'.cell? ⟨W.heap.size, 8, none⟩ = some (.slice a.s1 m.masters.length a.c1) ∧ w'.cell? ⟨W.heap.size, 2, none⟩ = some (.int .i64 m.cycles)) := fun w' hb => by
    obtain ⟨q0, q1, q2, q3, q4, q5, q6, q7, q8, q9, q10⟩ := (HM.out.on hb).bx.row.mat
    exact ⟨q8, q2⟩
  go_wp2_with fail
  refine Lw.wp_region_quiet_below (by kernel_rfl) (by kernel_rfl) ?_
  repeat (first
    | go_big_quiet_skip
    | (go_big_quiet_want; go_big_quiet_op; go_big_quiet_on)
    | (go_big_quiet_want; go_big_quiet_op; apply Exists.intro; refine ⟨fun _ hb' => ?_, ?_⟩; (first
      | exact Lw.val_rfl _
      | (simp [go_sem, (HC.out _ hb').1]; rfl)
      | (simp [go_sem, (HC.out _ hb').2]; rfl)); go_big_quiet_on))
  refine wpQuiet_nil ?_
  intro w4 hb
  replace HM : Hid (Mr W w4 W.heap.size m a []) := HM.out.on hb
  clear hb HC er ec hn1 hn2 hn3 hn4 y0 y1 y2 y3 y4 y5 y6 y7 y8 y9 y10
  obtain ⟨y0, y1, y2, y3, y4, y5, y6, y7, y8, y9, y10⟩ := HM.out.bx.row.mat
  go_wp2_with fail
  refine (HBd.out _ HM.out.bx.below HM.out.bx.mem).mono ?_
  rintro e w5 ⟨rfl, hb⟩
  have HM1 : Hid (Mr W (w5.alloc (.cells #[.bool false, .int .u32 (N : Int), .bool false, .string D] 30)) W.heap.size m a [(30, w5.heap.size, #[.bool false, .int .u32 (N : Int), .bool false, .string D])]) := (HM.out.on hb).al 30 #[.bool false, .int .u32 (N : Int), .bool false, .string D]
  clear y0 y1 y2 y3 y4 y5 y6 y7 y8 y9 y10
  clear hb HM HBd
  go_upto_region 10 with fail
  generalize w5.alloc (.cells #[.bool false, .int .u32 (N : Int), .bool false, .string D] 30) = v5 at HM1 ⊢
  generalize w5.heap.size = q5 at HM1 ⊢
  obtain ⟨y0, y1, y2, y3, y4, y5, y6, y7, y8, y9, y10⟩ := HM1.out.bx.row.mat
  have x5 := HM1.out.rows _ (List.mem_cons_self ..)
  have HX5 : Hid (RowT 30 v5 q5 #[.bool false, .int .u32 (N : Int), .bool false, .string D]) := x5
  clear x5
  have f0 := HX5.out.c 0 _ rfl
  have f1 := HX5.out.c 1 _ rfl
  have f2 := HX5.out.c 2 _ rfl
  have f3 := HX5.out.c 3 _ rfl
  go_wp2_with fail
  refine (HPa.out _ HM1.out.bx.below HM1.out.bx.mem).mono ?_
  rintro e w6 ⟨rfl, hb⟩
  have HM2 : Hid (Mr W ((w6.alloc (.cells #[.int .i64 (r : Int), .int .i64 (c : Int), .int .u16 (G : Int), .bool E] 36)).alloc (.cells #[.int .i64 (r : Int), .int .i64 (c : Int), .int .u16 0, .bool false] 36)) W.heap.size m a [(36, w6.heap.size + 1, #[.int .i64 (r : Int), .int .i64 (c : Int), .int .u16 0, .bool false]), (36, w6.heap.size, #[.int .i64 (r : Int), .int .i64 (c : Int), .int .u16 (G : Int), .bool E]), (30, q5, #[.bool false, .int .u32 (N : Int), .bool false, .string D])]) := by
    have h := ((HM1.out.on hb).al 36 #[.int .i64 (r : Int), .int .i64 (c : Int), .int .u16 (G : Int), .bool E]).al 36 #[.int .i64 (r : Int), .int .i64 (c : Int), .int .u16 0, .bool false]
    have e : (w6.alloc (.cells #[.int .i64 (r : Int), .int .i64 (c : Int), .int .u16 (G : Int), .bool E] 36)).heap.size = w6.heap.size + 1 := by simp
    rw [e] at h
    exact h
  have hq5 : W.heap.size < w6.heap.size ∧ q5 < w6.heap.size := ⟨(HM1.out.on hb).bx.row.lt, ((HM1.out.on hb).rows _ (List.mem_cons_self ..)).lt⟩
  clear y0 y1 y2 y3 y4 y5 y6 y7 y8 y9 y10
  clear hb HM1 HPa HX5 f0 f1 f2 f3
  go_upto_region 12 with fail
  generalize (w6.alloc (.cells #[.int .i64 (r : Int), .int .i64 (c : Int), .int .u16 (G : Int), .bool E] 36)).alloc (.cells #[.int .i64 (r : Int), .int .i64 (c : Int), .int .u16 0, .bool false] 36) = v6 at HM2 ⊢
  generalize w6.heap.size = q6 at HM2 hq5 ⊢
  obtain ⟨y0, y1, y2, y3, y4, y5, y6, y7, y8, y9, y10⟩ := HM2.out.bx.row.mat
  by_cases hl : m.level = 2
  · skip
    have e2 : (m.level == 2) = true := beq_iff_eq.2 hl
    rw [if_pos hl, if_pos hl] at HLv
    obtain ⟨eG, eE⟩ := HLv.out
    subst eG
    subst eE
    clear HLv hl
    have HXp : Hid (RowT 36 v6 (q6 + 1) #[.int .i64 (r : Int), .int .i64 (c : Int), .int .u16 0, .bool false]) := HM2.out.rows _ (List.mem_cons_self ..)
    have p2 := HXp.out.c 2 _ rfl
    have p3 := HXp.out.c 3 _ rfl
    have p2f := HXp.out.f 2
    have p3f := HXp.out.f 3
    clear HXp
    have HM3 : Hid (Mr W ((v6.setCell ⟨q6 + 1, 2, none⟩ (.int .u16 (g : Int))).setCell ⟨q6 + 1, 3, none⟩ (.bool dd)) W.heap.size m a [(36, q6 + 1, #[.int .i64 (r : Int), .int .i64 (c : Int), .int .u16 (g : Int), .bool dd]), (36, q6, #[.int .i64 (r : Int), .int .i64 (c : Int), .int .u16 (g : Int), .bool dd]), (30, q5, #[.bool false, .int .u32 (N : Int), .bool false, .string D])]) := (HM2.out.set (by omega) (fun x hx => by simp only [List.mem_cons, List.not_mem_nil, or_false] at hx; rcases hx with rfl | rfl <;> (dsimp only; omega)) (by omega) 2 _).set (by omega) (fun x hx => by simp only [List.mem_cons, List.not_mem_nil, or_false] at hx; rcases hx with rfl | rfl <;> (dsimp only; omega)) (by omega) 3 _
    clear HM2
    go_upto_region 14 with fail
    clear p2 p3 p2f p3f e2 y0 y1 y2 y3 y4 y5 y6 y7 y8 y9 y10
    generalize (v6.setCell ⟨q6 + 1, 2, none⟩ (.int .u16 (g : Int))).setCell ⟨q6 + 1, 3, none⟩ (.bool dd) = v7 at HM3 ⊢
    obtain ⟨y0, y1, y2, y3, y4, y5, y6, y7, y8, y9, y10⟩ := HM3.out.bx.row.mat
    have HX1 : Hid (RowT 36 v7 (q6 + 1) #[.int .i64 (r : Int), .int .i64 (c : Int), .int .u16 (g : Int), .bool dd]) := HM3.out.rows (36, q6 + 1, #[.int .i64 (r : Int), .int .i64 (c : Int), .int .u16 (g : Int), .bool dd]) (by simp)
    have HX2 : Hid (RowT 36 v7 q6 #[.int .i64 (r : Int), .int .i64 (c : Int), .int .u16 (g : Int), .bool dd]) := HM3.out.rows (36, q6, #[.int .i64 (r : Int), .int .i64 (c : Int), .int .u16 (g : Int), .bool dd]) (by simp)
    have HX3 : Hid (RowT 30 v7 q5 #[.bool false, .int .u32 (N : Int), .bool false, .string D]) := HM3.out.rows (30, q5, #[.bool false, .int .u32 (N : Int), .bool false, .string D]) (by simp)
    have k0 := HX1.out.c 0 _ rfl
    have l0 := HX2.out.c 0 _ rfl
    have f0 := HX3.out.c 0 _ rfl
    have k1 := HX1.out.c 1 _ rfl
    have l1 := HX2.out.c 1 _ rfl
    have f1 := HX3.out.c 1 _ rfl
    have k2 := HX1.out.c 2 _ rfl
    have l2 := HX2.out.c 2 _ rfl
    have f2 := HX3.out.c 2 _ rfl
    have k3 := HX1.out.c 3 _ rfl
    have l3 := HX2.out.c 3 _ rfl
    have f3 := HX3.out.c 3 _ rfl
    clear HX1 HX2 HX3
    go_wp2_with fail
    refine (HFi.out _ HM3.out.bx.below HM3.out.bx.mem).mono ?_
    rintro e w8 ⟨rfl, hb⟩
    have HM4 : Hid (Mr W w8 W.heap.size m a []) := ⟨HM3.out.orig, HM3.out.bx.on hb, fun x hx => by cases hx⟩
    clear hb HM3 HFi y0 y1 y2 y3 y4 y5 y6 y7 y8 y9 y10 k0 k1 k2 k3 l0 l1 l2 l3 f0 f1 f2 f3
    obtain ⟨y0, y1, y2, y3, y4, y5, y6, y7, y8, y9, y10⟩ := HM4.out.bx.row.mat
    by_cases hz : m.messages.length = 0
    · have hzi : (m.messages.length : Int) = 0 := by omega
      go_wp2
      go_ret
      exact ⟨rfl, HM4.out.bx.below⟩
    have hzi : ¬ ((m.messages.length : Int) = 0) := by omega
    have hzm : ¬ ((m.messages.length : Int) = -1) := by omega
    obtain ⟨j, hj⟩ : ∃ j, ms % m.messages.length = j := ⟨_, rfl⟩
    have hjl : j < m.messages.length := by rw [← hj]; exact Nat.mod_lt _ (by omega)
    have ej : (ms : Int).tmod (m.messages.length : Int) = (j : Int) := by rw [Int.tmod_eq_emod_of_nonneg (by omega), ← hj]; exact (Int.natCast_emod _ _).symm
    obtain ⟨x, hx⟩ := HG0.out j hjl
    have HFx := HFr.out j x hx
    have HPx := HPm.out j x hx
    obtain ⟨id, hid⟩ : ∃ id, x.id = id := ⟨_, rfl⟩
    rw [hid] at HFx HPx
    have HFy : Hid (∀ w', Below w8.heap.size w8 w' → Calls Tryd.prog 15 #[.agg (mCs m a), .int .i64 (j : Int), .string d] w' fun e w9 => e = .returned (.tuple #[.agg #[.bool false, .int .u32 (id : Int), .bool false, .string d], .bool true]) ∧ Below w'.heap.size w' w9) := fun w' hb => HFx w' (HM4.out.on hb).bx.below (HM4.out.on hb).bx.mem
    clear HFx HFr HPm hx hid hj hjl HG0
    have HC : Hid (∀ w', Below w8.heap.size w8 w' → Mr W w' W.heap.size m a []) := fun w' hb => HM4.out.on hb
    have ms8 : (ms : Int) ≤ 255 := by omega
    go_upto_region 18 with fail
    generalize ((m.messages.length : Int) == 0) = bz
    generalize (Value.agg #[.int .i64 m.level, .int .i64 m.nodes, .int .i64 m.cycles, .int .i64 m.length, .int .i64 m.enable, .int .i64 m.unit, .int .i64 m.init, .int .u32 (m.ref : Int), .slice a.s1 m.masters.length a.c1, .slice a.s2 m.messages.length a.c2, .slice a.s3 m.windows.length a.c3]) = V0
    generalize (Value.agg #[.bool false, .int .u32 (N : Int), .bool false, .string D]) = V1
    generalize (Value.agg #[.int .i64 (r : Int), .int .i64 (c : Int), .int .u16 (g : Int), .bool dd]) = V2
    generalize (Value.agg (mCs m a)) = V3
    clear y0 y1 y2 y3 y4 y5 y6 y7 y8 y9 y10
    go_cut [24, 25] from 102 to 114 (fun v24 v25 wx => ∃ q : Nat, v24 = Ob.ptr q ∧ v25 = .bool true ∧ Hid (Mr W wx W.heap.size m a [(30, q, #[.bool false, .int .u32 (id : Int), .bool false, .string d])]))
    case first =>
      refine wp_region_held_drew (S := fun w' => Below w8.heap.size w8 w') (by kernel_rfl) (Below.refl _ _).drew (fun hHeld => ?_)
      refine Hl.takeL (i := 0) (d := 103) (v := ?_) rfl (by kernel_rfl) (by kernel_rfl) (by kernel_rfl) (fun _ _ _ h => h) (by rfl) ?_ (by first | assumption | trivial) ?_
      rotate_left
      · intro w hSw; obtain ⟨z0, z1, z2, z3, z4, z5, z6, z7, z8, z9, z10⟩ := (HC.out _ hSw).bx.row.mat; go_simp; (try with_reducible rfl)
      simp only [Act.put, List.setIfInBounds_toArray, List.set_cons_zero, List.set_cons_succ]
      refine Hl.takeL (i := 1) (d := 104) (v := ?_) rfl (by kernel_rfl) (by kernel_rfl) (by kernel_rfl) (fun _ _ _ h => h) (by rfl) ?_ (by first | assumption | trivial) ?_
      rotate_left
      · intro w hSw; skip; go_simp; (try with_reducible rfl)
      simp only [Act.put, List.setIfInBounds_toArray, List.set_cons_zero, List.set_cons_succ]
      refine Hl.takeL (i := 2) (d := 105) (v := ?_) rfl (by kernel_rfl) (by kernel_rfl) (by kernel_rfl) (fun _ _ _ h => h) (by rfl) ?_ (by first | assumption | trivial) ?_
      rotate_left
      · intro w hSw; skip; go_simp; (try with_reducible rfl)
      simp only [Act.put, List.setIfInBounds_toArray, List.set_cons_zero, List.set_cons_succ]
      refine Hl.takeL (i := 3) (d := 106) (v := ?_) rfl (by kernel_rfl) (by kernel_rfl) (by kernel_rfl) (fun _ _ _ h => h) (by rfl) ?_ (by first | assumption | trivial) ?_
      rotate_left
      · intro w hSw; skip; go_simp; (try with_reducible rfl)
      simp only [Act.put, List.setIfInBounds_toArray, List.set_cons_zero, List.set_cons_succ]
      refine Hl.takeL (i := 4) (d := 107) (v := ?_) rfl (by kernel_rfl) (by kernel_rfl) (by kernel_rfl) (fun _ _ _ h => h) (by rfl) ?_ (by first | assumption | trivial) ?_
      rotate_left
      · intro w hSw; obtain ⟨z0, z1, z2, z3, z4, z5, z6, z7, z8, z9, z10⟩ := (HC.out _ hSw).bx.row.mat; go_simp; (try with_reducible rfl)
      simp only [Act.put, List.setIfInBounds_toArray, List.set_cons_zero, List.set_cons_succ]
      refine Hl.takeL (i := 5) (d := 108) (v := ?_) rfl (by kernel_rfl) (by kernel_rfl) (by kernel_rfl) (fun _ _ _ h => h) (by rfl) ?_ (by first | assumption | trivial) ?_
      rotate_left
      · intro w hSw; skip; go_simp; (try with_reducible rfl)
      simp only [Act.put, List.setIfInBounds_toArray, List.set_cons_zero, List.set_cons_succ]
      refine Hl.takeL (i := 6) (d := 109) (v := ?_) rfl (by kernel_rfl) (by kernel_rfl) (by kernel_rfl) (fun _ _ _ h => h) (by rfl) ?_ (by first | assumption | trivial) ?_
      rotate_left
      · intro w hSw; skip; go_simp; (try with_reducible rfl)
      simp only [Act.put, List.setIfInBounds_toArray, List.set_cons_zero, List.set_cons_succ]
      refine Hl.takeL (i := 7) (d := 110) (v := ?_) rfl (by kernel_rfl) (by kernel_rfl) (by kernel_rfl) (fun _ _ _ h => h) (by rfl) ?_ (by first | assumption | trivial) ?_
      rotate_left
      · intro w hSw; skip; go_simp; (try with_reducible rfl)
      simp only [Act.put, List.setIfInBounds_toArray, List.set_cons_zero, List.set_cons_succ]
      have ew : IntKind.i64.wrap (ms : Int) = (ms : Int) := by rw [IntKind.wrap_i64]; omega
      rw [ew, ej]
      clear ew
      have HB1 : Hid (Below w8.heap.size w8 w8.drew) := (Below.refl _ _).drew
      refine Hl.consL2 (i := 8) (j := 12) rfl rfl (by kernel_rfl) (fun K' hK' => ?_) (fun K' hK' => ?_)
      · skip
        go_simp
        go_at_call 15
        refine (HFy.out _ HB1.out).mono ?_
        rintro e w9 ⟨rfl, hb9⟩
        go_simp
        have HB2 : Hid (Below w8.heap.size w8 w9) := HB1.out.trans (hb9.mono HB1.out.size)
        refine hK'.out _ _ HB2.out (fun hHeld => ?_)
        clear hK' K' hHeld hb9
        refine Hl.takeL (i := 9) (d := 102) (v := ?_) rfl (by kernel_rfl) (by kernel_rfl) (by kernel_rfl) (fun _ _ _ h => h) (by rfl) ?_ (by first | assumption | trivial) ?_
        rotate_left
        · intro w hSw; skip; go_simp; (try with_reducible rfl)
        simp only [Act.put, List.setIfInBounds_toArray, List.set_cons_zero, List.set_cons_succ]
        refine Hl.takeL (i := 10) (d := 112) (v := ?_) rfl (by kernel_rfl) (by kernel_rfl) (by kernel_rfl) (fun _ _ _ h => h) (by rfl) ?_ (by first | assumption | trivial) ?_
        rotate_left
        · intro w hSw; skip; go_simp; (try with_reducible rfl)
        simp only [Act.put, List.setIfInBounds_toArray, List.set_cons_zero, List.set_cons_succ]
        refine Hl.takeL (i := 11) (d := 113) (v := ?_) rfl (by kernel_rfl) (by kernel_rfl) (by kernel_rfl) (fun _ _ _ h => h) (by rfl) ?_ (by first | assumption | trivial) ?_
        rotate_left
        · intro w hSw; skip; go_simp; (try with_reducible rfl)
        simp only [Act.put, List.setIfInBounds_toArray, List.set_cons_zero, List.set_cons_succ]
        refine Hl.consL (i := 12) rfl (by kernel_rfl) (fun K' hK' => ?_)
        go_simp
        have HB3 : Hid (Below w8.heap.size w8 (w9.alloc (.cells #[.bool false, .int .u32 0, .bool false, .string ⟨#[]⟩] 30))) := HB2.out.alloc HB2.out.size _
        refine hK'.out _ _ HB3.out (fun hHeld => ?_)
        clear hK' K' hHeld
        have HRz : Hid (RowT 30 (w9.alloc (.cells #[.bool false, .int .u32 0, .bool false, .string ⟨#[]⟩] 30)) w9.heap.size #[.bool false, .int .u32 0, .bool false, .string ⟨#[]⟩]) := RowT.new _ _ _
        have HMz : Hid (Mr W (w9.alloc (.cells #[.bool false, .int .u32 0, .bool false, .string ⟨#[]⟩] 30)) W.heap.size m a []) := HC.out _ HB3.out
        have hne : W.heap.size ≠ w9.heap.size := by have := (HC.out _ HB2.out).bx.row.lt; omega
        have hge : W.heap.size ≤ w9.heap.size := (HC.out _ HB2.out).bx.below.size
        have hge8 : w8.heap.size ≤ w9.heap.size := HB2.out.size
        have HBz : Hid (Bel8 w8 (w9.alloc (.cells #[.bool false, .int .u32 0, .bool false, .string ⟨#[]⟩] 30)) w9.heap.size #[.bool false, .int .u32 (id : Int), .bool false, .string d]) := Bel8.of HB3.out
        refine Hl.consL (i := 13) rfl (by kernel_rfl) (fun K' hK' => ?_)
        refine Hl.step_store_row rfl 30 (.tmp 24) (.tmp 112) rfl (w9.heap.size) #[.bool false, .int .u32 (id : Int), .bool false, .string d] rfl rfl 30 _ HRz.out finfo21 rfl (by simp [Value.oneCell']) ?_
        have HM9 : Hid (Mr W ((w9.alloc (.cells #[.bool false, .int .u32 0, .bool false, .string ⟨#[]⟩] 30)).setRow (w9.heap.size) #[.bool false, .int .u32 (id : Int), .bool false, .string d]) W.heap.size m a [(30, w9.heap.size, #[.bool false, .int .u32 (id : Int), .bool false, .string d])]) := Mr.row HMz.out HRz.out hne hge _
        have HB4 : Hid (Below w8.heap.size w8 ((w9.alloc (.cells #[.bool false, .int .u32 0, .bool false, .string ⟨#[]⟩] 30)).setRow (w9.heap.size) #[.bool false, .int .u32 (id : Int), .bool false, .string d])) := HBz.out.trans' hge8
        refine hK'.out _ _ HB4.out (fun hHeld => ?_)
        clear hK' K' hHeld
        refine Hl.takeL (i := 14) (d := 25) (v := ?_) rfl (by kernel_rfl) (by kernel_rfl) (by kernel_rfl) (fun _ _ _ h => h) (by rfl) ?_ (by first | assumption | trivial) ?_
        rotate_left
        · intro w hSw; skip; go_simp; (try with_reducible rfl)
        simp only [Act.put, List.setIfInBounds_toArray, List.set_cons_zero, List.set_cons_succ]
        refine wpAnyH_done (by kernel_rfl) ?_ _
        go_wp2_with fail
        go_meet
        case rel => exact ⟨_, rfl, rfl, HM9⟩
      · skip
        go_simp
        have HB3 : Hid (Below w8.heap.size w8 (w8.drew.alloc (.cells #[.bool false, .int .u32 0, .bool false, .string ⟨#[]⟩] 30))) := HB1.out.alloc HB1.out.size _
        refine hK'.out _ (w8.drew.alloc (.cells #[.bool false, .int .u32 0, .bool false, .string ⟨#[]⟩] 30)) HB3.out (fun hHeld => ?_)
        clear hK' K' hHeld
        have HRz : Hid (RowT 30 (w8.drew.alloc (.cells #[.bool false, .int .u32 0, .bool false, .string ⟨#[]⟩] 30)) w8.heap.size #[.bool false, .int .u32 0, .bool false, .string ⟨#[]⟩]) := RowT.new 30 w8.drew #[.bool false, .int .u32 0, .bool false, .string ⟨#[]⟩]
        have hlt8 := (HC.out _ (Below.refl _ _)).bx.row.lt
        have hne : W.heap.size ≠ w8.heap.size := by omega
        have hge : W.heap.size ≤ w8.heap.size := by omega
        have hge8 : w8.heap.size ≤ w8.heap.size := Nat.le_refl _
        generalize w8.drew.alloc (.cells #[.bool false, .int .u32 0, .bool false, .string ⟨#[]⟩] 30) = w9 at HB3 HRz ⊢
        refine Hl.consL (i := 8) rfl (by kernel_rfl) (fun K' hK' => ?_)
        go_simp
        go_at_call 15
        refine (HFy.out _ HB3.out).mono ?_
        rintro e w10 ⟨rfl, hb9⟩
        go_simp
        have HB5 : Hid (Below w8.heap.size w8 w10) := HB3.out.trans (hb9.mono HB3.out.size)
        replace HRz : Hid (RowT 30 w10 w8.heap.size #[.bool false, .int .u32 0, .bool false, .string ⟨#[]⟩]) := HRz.out.on hb9
        refine hK'.out _ _ HB5.out (fun hHeld => ?_)
        clear hK' K' hHeld hb9
        refine Hl.takeL (i := 9) (d := 102) (v := ?_) rfl (by kernel_rfl) (by kernel_rfl) (by kernel_rfl) (fun _ _ _ h => h) (by rfl) ?_ (by first | assumption | trivial) ?_
        rotate_left
        · intro w hSw; skip; go_simp; (try with_reducible rfl)
        simp only [Act.put, List.setIfInBounds_toArray, List.set_cons_zero, List.set_cons_succ]
        refine Hl.takeL (i := 10) (d := 112) (v := ?_) rfl (by kernel_rfl) (by kernel_rfl) (by kernel_rfl) (fun _ _ _ h => h) (by rfl) ?_ (by first | assumption | trivial) ?_
        rotate_left
        · intro w hSw; skip; go_simp; (try with_reducible rfl)
        simp only [Act.put, List.setIfInBounds_toArray, List.set_cons_zero, List.set_cons_succ]
        refine Hl.takeL (i := 11) (d := 113) (v := ?_) rfl (by kernel_rfl) (by kernel_rfl) (by kernel_rfl) (fun _ _ _ h => h) (by rfl) ?_ (by first | assumption | trivial) ?_
        rotate_left
        · intro w hSw; skip; go_simp; (try with_reducible rfl)
        simp only [Act.put, List.setIfInBounds_toArray, List.set_cons_zero, List.set_cons_succ]
        have HMz : Hid (Mr W w10 W.heap.size m a []) := HC.out _ HB5.out
        have HBz : Hid (Bel8 w8 w10 w8.heap.size #[.bool false, .int .u32 (id : Int), .bool false, .string d]) := Bel8.of HB5.out
        refine Hl.consL (i := 13) rfl (by kernel_rfl) (fun K' hK' => ?_)
        refine Hl.step_store_row rfl 30 (.tmp 24) (.tmp 112) rfl (w8.heap.size) #[.bool false, .int .u32 (id : Int), .bool false, .string d] rfl rfl 30 _ HRz.out finfo21 rfl (by simp [Value.oneCell']) ?_
        have HM9 : Hid (Mr W ((w10).setRow (w8.heap.size) #[.bool false, .int .u32 (id : Int), .bool false, .string d]) W.heap.size m a [(30, w8.heap.size, #[.bool false, .int .u32 (id : Int), .bool false, .string d])]) := Mr.row HMz.out HRz.out hne hge _
        have HB4 : Hid (Below w8.heap.size w8 ((w10).setRow (w8.heap.size) #[.bool false, .int .u32 (id : Int), .bool false, .string d])) := HBz.out.trans' hge8
        refine hK'.out _ _ HB4.out (fun hHeld => ?_)
        clear hK' K' hHeld
        refine Hl.takeL (i := 14) (d := 25) (v := ?_) rfl (by kernel_rfl) (by kernel_rfl) (by kernel_rfl) (fun _ _ _ h => h) (by rfl) ?_ (by first | assumption | trivial) ?_
        rotate_left
        · intro w hSw; skip; go_simp; (try with_reducible rfl)
        simp only [Act.put, List.setIfInBounds_toArray, List.set_cons_zero, List.set_cons_succ]
        refine wpAnyH_done (by kernel_rfl) ?_ _
        go_wp2_with fail
        go_meet
        case rel => exact ⟨_, rfl, rfl, HM9⟩
    case rest =>
      obtain ⟨q, rfl, rfl, HM5⟩ := hcut
      have HX6 : Hid (RowT 30 wc q #[.bool false, .int .u32 (id : Int), .bool false, .string d]) := HM5.out.rows _ (List.mem_cons_self ..)
      have f0 := HX6.out.c 0 _ rfl
      have f1 := HX6.out.c 1 _ rfl
      have f2 := HX6.out.c 2 _ rfl
      have f3 := HX6.out.c 3 _ rfl
      obtain ⟨y0, y1, y2, y3, y4, y5, y6, y7, y8, y9, y10⟩ := HM5.out.bx.row.mat
      go_wp2_with fail
      refine (HPx _ HM5.out.bx.below HM5.out.bx.mem).mono ?_
      rintro e w10 ⟨rfl, hb⟩
      have HB : Hid (Below W.heap.size W w10) := HM5.out.bx.below.trans (hb.mono HM5.out.bx.below.size)
      clear hb HM5 HX6 f0 f1 f2 f3 HPx y0 y1 y2 y3 y4 y5 y6 y7 y8 y9 y10
      go_wp2
      go_ret
      refine ⟨rfl, ?_⟩
      exact HB.out.alloc HB.out.size _
  · skip
    have e2 : (m.level == 2) = false := beq_eq_false_iff_ne.2 hl
    rw [if_neg hl, if_neg hl] at HLv
    obtain ⟨eG, eE⟩ := HLv.out
    subst eG
    subst eE
    clear HLv hl
    have HM3 : Hid (Mr W v6 W.heap.size m a [(36, q6 + 1, #[.int .i64 (r : Int), .int .i64 (c : Int), .int .u16 0, .bool false]), (36, q6, #[.int .i64 (r : Int), .int .i64 (c : Int), .int .u16 0, .bool false]), (30, q5, #[.bool false, .int .u32 (N : Int), .bool false, .string D])]) := HM2
    clear HM2
    go_upto_region 14 with fail
    clear e2 y0 y1 y2 y3 y4 y5 y6 y7 y8 y9 y10
    generalize v6 = v7 at HM3 ⊢
    obtain ⟨y0, y1, y2, y3, y4, y5, y6, y7, y8, y9, y10⟩ := HM3.out.bx.row.mat
    have HX1 : Hid (RowT 36 v7 (q6 + 1) #[.int .i64 (r : Int), .int .i64 (c : Int), .int .u16 0, .bool false]) := HM3.out.rows (36, q6 + 1, #[.int .i64 (r : Int), .int .i64 (c : Int), .int .u16 0, .bool false]) (by simp)
    have HX2 : Hid (RowT 36 v7 q6 #[.int .i64 (r : Int), .int .i64 (c : Int), .int .u16 0, .bool false]) := HM3.out.rows (36, q6, #[.int .i64 (r : Int), .int .i64 (c : Int), .int .u16 0, .bool false]) (by simp)
    have HX3 : Hid (RowT 30 v7 q5 #[.bool false, .int .u32 (N : Int), .bool false, .string D]) := HM3.out.rows (30, q5, #[.bool false, .int .u32 (N : Int), .bool false, .string D]) (by simp)
    have k0 := HX1.out.c 0 _ rfl
    have l0 := HX2.out.c 0 _ rfl
    have f0 := HX3.out.c 0 _ rfl
    have k1 := HX1.out.c 1 _ rfl
    have l1 := HX2.out.c 1 _ rfl
    have f1 := HX3.out.c 1 _ rfl
    have k2 := HX1.out.c 2 _ rfl
    have l2 := HX2.out.c 2 _ rfl
    have f2 := HX3.out.c 2 _ rfl
    have k3 := HX1.out.c 3 _ rfl
    have l3 := HX2.out.c 3 _ rfl
    have f3 := HX3.out.c 3 _ rfl
    clear HX1 HX2 HX3
    go_wp2_with fail
    refine (HFi.out _ HM3.out.bx.below HM3.out.bx.mem).mono ?_
    rintro e w8 ⟨rfl, hb⟩
    have HM4 : Hid (Mr W w8 W.heap.size m a []) := ⟨HM3.out.orig, HM3.out.bx.on hb, fun x hx => by cases hx⟩
    clear hb HM3 HFi y0 y1 y2 y3 y4 y5 y6 y7 y8 y9 y10 k0 k1 k2 k3 l0 l1 l2 l3 f0 f1 f2 f3
    obtain ⟨y0, y1, y2, y3, y4, y5, y6, y7, y8, y9, y10⟩ := HM4.out.bx.row.mat
    by_cases hz : m.messages.length = 0
    · have hzi : (m.messages.length : Int) = 0 := by omega
      go_wp2
      go_ret
      exact ⟨rfl, HM4.out.bx.below⟩
    have hzi : ¬ ((m.messages.length : Int) = 0) := by omega
    have hzm : ¬ ((m.messages.length : Int) = -1) := by omega
    obtain ⟨j, hj⟩ : ∃ j, ms % m.messages.length = j := ⟨_, rfl⟩
    have hjl : j < m.messages.length := by rw [← hj]; exact Nat.mod_lt _ (by omega)
    have ej : (ms : Int).tmod (m.messages.length : Int) = (j : Int) := by rw [Int.tmod_eq_emod_of_nonneg (by omega), ← hj]; exact (Int.natCast_emod _ _).symm
    obtain ⟨x, hx⟩ := HG0.out j hjl
    have HFx := HFr.out j x hx
    have HPx := HPm.out j x hx
    obtain ⟨id, hid⟩ : ∃ id, x.id = id := ⟨_, rfl⟩
    rw [hid] at HFx HPx
    have HFy : Hid (∀ w', Below w8.heap.size w8 w' → Calls Tryd.prog 15 #[.agg (mCs m a), .int .i64 (j : Int), .string d] w' fun e w9 => e = .returned (.tuple #[.agg #[.bool false, .int .u32 (id : Int), .bool false, .string d], .bool true]) ∧ Below w'.heap.size w' w9) := fun w' hb => HFx w' (HM4.out.on hb).bx.below (HM4.out.on hb).bx.mem
    clear HFx HFr HPm hx hid hj hjl HG0
    have HC : Hid (∀ w', Below w8.heap.size w8 w' → Mr W w' W.heap.size m a []) := fun w' hb => HM4.out.on hb
    have ms8 : (ms : Int) ≤ 255 := by omega
    go_upto_region 18 with fail
    generalize ((m.messages.length : Int) == 0) = bz
    generalize (Value.agg #[.int .i64 m.level, .int .i64 m.nodes, .int .i64 m.cycles, .int .i64 m.length, .int .i64 m.enable, .int .i64 m.unit, .int .i64 m.init, .int .u32 (m.ref : Int), .slice a.s1 m.masters.length a.c1, .slice a.s2 m.messages.length a.c2, .slice a.s3 m.windows.length a.c3]) = V0
    generalize (Value.agg #[.bool false, .int .u32 (N : Int), .bool false, .string D]) = V1
    generalize (Value.agg #[.int .i64 (r : Int), .int .i64 (c : Int), .int .u16 0, .bool false]) = V2
    generalize (Value.agg (mCs m a)) = V3
    clear y0 y1 y2 y3 y4 y5 y6 y7 y8 y9 y10
    go_cut [24, 25] from 102 to 114 (fun v24 v25 wx => ∃ q : Nat, v24 = Ob.ptr q ∧ v25 = .bool true ∧ Hid (Mr W wx W.heap.size m a [(30, q, #[.bool false, .int .u32 (id : Int), .bool false, .string d])]))
    case first =>
      refine wp_region_held_drew (S := fun w' => Below w8.heap.size w8 w') (by kernel_rfl) (Below.refl _ _).drew (fun hHeld => ?_)
      refine Hl.takeL (i := 0) (d := 103) (v := ?_) rfl (by kernel_rfl) (by kernel_rfl) (by kernel_rfl) (fun _ _ _ h => h) (by rfl) ?_ (by first | assumption | trivial) ?_
      rotate_left
      · intro w hSw; obtain ⟨z0, z1, z2, z3, z4, z5, z6, z7, z8, z9, z10⟩ := (HC.out _ hSw).bx.row.mat; go_simp; (try with_reducible rfl)
      simp only [Act.put, List.setIfInBounds_toArray, List.set_cons_zero, List.set_cons_succ]
      refine Hl.takeL (i := 1) (d := 104) (v := ?_) rfl (by kernel_rfl) (by kernel_rfl) (by kernel_rfl) (fun _ _ _ h => h) (by rfl) ?_ (by first | assumption | trivial) ?_
      rotate_left
      · intro w hSw; skip; go_simp; (try with_reducible rfl)
      simp only [Act.put, List.setIfInBounds_toArray, List.set_cons_zero, List.set_cons_succ]
      refine Hl.takeL (i := 2) (d := 105) (v := ?_) rfl (by kernel_rfl) (by kernel_rfl) (by kernel_rfl) (fun _ _ _ h => h) (by rfl) ?_ (by first | assumption | trivial) ?_
      rotate_left
      · intro w hSw; skip; go_simp; (try with_reducible rfl)
      simp only [Act.put, List.setIfInBounds_toArray, List.set_cons_zero, List.set_cons_succ]
      refine Hl.takeL (i := 3) (d := 106) (v := ?_) rfl (by kernel_rfl) (by kernel_rfl) (by kernel_rfl) (fun _ _ _ h => h) (by rfl) ?_ (by first | assumption | trivial) ?_
      rotate_left
      · intro w hSw; skip; go_simp; (try with_reducible rfl)
      simp only [Act.put, List.setIfInBounds_toArray, List.set_cons_zero, List.set_cons_succ]
      refine Hl.takeL (i := 4) (d := 107) (v := ?_) rfl (by kernel_rfl) (by kernel_rfl) (by kernel_rfl) (fun _ _ _ h => h) (by rfl) ?_ (by first | assumption | trivial) ?_
      rotate_left
      · intro w hSw; obtain ⟨z0, z1, z2, z3, z4, z5, z6, z7, z8, z9, z10⟩ := (HC.out _ hSw).bx.row.mat; go_simp; (try with_reducible rfl)
      simp only [Act.put, List.setIfInBounds_toArray, List.set_cons_zero, List.set_cons_succ]
      refine Hl.takeL (i := 5) (d := 108) (v := ?_) rfl (by kernel_rfl) (by kernel_rfl) (by kernel_rfl) (fun _ _ _ h => h) (by rfl) ?_ (by first | assumption | trivial) ?_
      rotate_left
      · intro w hSw; skip; go_simp; (try with_reducible rfl)
      simp only [Act.put, List.setIfInBounds_toArray, List.set_cons_zero, List.set_cons_succ]
      refine Hl.takeL (i := 6) (d := 109) (v := ?_) rfl (by kernel_rfl) (by kernel_rfl) (by kernel_rfl) (fun _ _ _ h => h) (by rfl) ?_ (by first | assumption | trivial) ?_
      rotate_left
      · intro w hSw; skip; go_simp; (try with_reducible rfl)
      simp only [Act.put, List.setIfInBounds_toArray, List.set_cons_zero, List.set_cons_succ]
      refine Hl.takeL (i := 7) (d := 110) (v := ?_) rfl (by kernel_rfl) (by kernel_rfl) (by kernel_rfl) (fun _ _ _ h => h) (by rfl) ?_ (by first | assumption | trivial) ?_
      rotate_left
      · intro w hSw; skip; go_simp; (try with_reducible rfl)
      simp only [Act.put, List.setIfInBounds_toArray, List.set_cons_zero, List.set_cons_succ]
      have ew : IntKind.i64.wrap (ms : Int) = (ms : Int) := by rw [IntKind.wrap_i64]; omega
      rw [ew, ej]
      clear ew
      have HB1 : Hid (Below w8.heap.size w8 w8.drew) := (Below.refl _ _).drew
      refine Hl.consL2 (i := 8) (j := 12) rfl rfl (by kernel_rfl) (fun K' hK' => ?_) (fun K' hK' => ?_)
      · skip
        go_simp
        go_at_call 15
        refine (HFy.out _ HB1.out).mono ?_
        rintro e w9 ⟨rfl, hb9⟩
        go_simp
        have HB2 : Hid (Below w8.heap.size w8 w9) := HB1.out.trans (hb9.mono HB1.out.size)
        refine hK'.out _ _ HB2.out (fun hHeld => ?_)
        clear hK' K' hHeld hb9
        refine Hl.takeL (i := 9) (d := 102) (v := ?_) rfl (by kernel_rfl) (by kernel_rfl) (by kernel_rfl) (fun _ _ _ h => h) (by rfl) ?_ (by first | assumption | trivial) ?_
        rotate_left
        · intro w hSw; skip; go_simp; (try with_reducible rfl)
        simp only [Act.put, List.setIfInBounds_toArray, List.set_cons_zero, List.set_cons_succ]
        refine Hl.takeL (i := 10) (d := 112) (v := ?_) rfl (by kernel_rfl) (by kernel_rfl) (by kernel_rfl) (fun _ _ _ h => h) (by rfl) ?_ (by first | assumption | trivial) ?_
        rotate_left
        · intro w hSw; skip; go_simp; (try with_reducible rfl)
        simp only [Act.put, List.setIfInBounds_toArray, List.set_cons_zero, List.set_cons_succ]
        refine Hl.takeL (i := 11) (d := 113) (v := ?_) rfl (by kernel_rfl) (by kernel_rfl) (by kernel_rfl) (fun _ _ _ h => h) (by rfl) ?_ (by first | assumption | trivial) ?_
        rotate_left
        · intro w hSw; skip; go_simp; (try with_reducible rfl)
        simp only [Act.put, List.setIfInBounds_toArray, List.set_cons_zero, List.set_cons_succ]
        refine Hl.consL (i := 12) rfl (by kernel_rfl) (fun K' hK' => ?_)
        go_simp
        have HB3 : Hid (Below w8.heap.size w8 (w9.alloc (.cells #[.bool false, .int .u32 0, .bool false, .string ⟨#[]⟩] 30))) := HB2.out.alloc HB2.out.size _
        refine hK'.out _ _ HB3.out (fun hHeld => ?_)
        clear hK' K' hHeld
        have HRz : Hid (RowT 30 (w9.alloc (.cells #[.bool false, .int .u32 0, .bool false, .string ⟨#[]⟩] 30)) w9.heap.size #[.bool false, .int .u32 0, .bool false, .string ⟨#[]⟩]) := RowT.new _ _ _
        have HMz : Hid (Mr W (w9.alloc (.cells #[.bool false, .int .u32 0, .bool false, .string ⟨#[]⟩] 30)) W.heap.size m a []) := HC.out _ HB3.out
        have hne : W.heap.size ≠ w9.heap.size := by have := (HC.out _ HB2.out).bx.row.lt; omega
        have hge : W.heap.size ≤ w9.heap.size := (HC.out _ HB2.out).bx.below.size
        have hge8 : w8.heap.size ≤ w9.heap.size := HB2.out.size
        have HBz : Hid (Bel8 w8 (w9.alloc (.cells #[.bool false, .int .u32 0, .bool false, .string ⟨#[]⟩] 30)) w9.heap.size #[.bool false, .int .u32 (id : Int), .bool false, .string d]) := Bel8.of HB3.out
        refine Hl.consL (i := 13) rfl (by kernel_rfl) (fun K' hK' => ?_)
        refine Hl.step_store_row rfl 30 (.tmp 24) (.tmp 112) rfl (w9.heap.size) #[.bool false, .int .u32 (id : Int), .bool false, .string d] rfl rfl 30 _ HRz.out finfo21 rfl (by simp [Value.oneCell']) ?_
        have HM9 : Hid (Mr W ((w9.alloc (.cells #[.bool false, .int .u32 0, .bool false, .string ⟨#[]⟩] 30)).setRow (w9.heap.size) #[.bool false, .int .u32 (id : Int), .bool false, .string d]) W.heap.size m a [(30, w9.heap.size, #[.bool false, .int .u32 (id : Int), .bool false, .string d])]) := Mr.row HMz.out HRz.out hne hge _
        have HB4 : Hid (Below w8.heap.size w8 ((w9.alloc (.cells #[.bool false, .int .u32 0, .bool false, .string ⟨#[]⟩] 30)).setRow (w9.heap.size) #[.bool false, .int .u32 (id : Int), .bool false, .string d])) := HBz.out.trans' hge8
        refine hK'.out _ _ HB4.out (fun hHeld => ?_)
        clear hK' K' hHeld
        refine Hl.takeL (i := 14) (d := 25) (v := ?_) rfl (by kernel_rfl) (by kernel_rfl) (by kernel_rfl) (fun _ _ _ h => h) (by rfl) ?_ (by first | assumption | trivial) ?_
        rotate_left
        · intro w hSw; skip; go_simp; (try with_reducible rfl)
        simp only [Act.put, List.setIfInBounds_toArray, List.set_cons_zero, List.set_cons_succ]
        refine wpAnyH_done (by kernel_rfl) ?_ _
        go_wp2_with fail
        go_meet
        case rel => exact ⟨_, rfl, rfl, HM9⟩
      · skip
        go_simp
        have HB3 : Hid (Below w8.heap.size w8 (w8.drew.alloc (.cells #[.bool false, .int .u32 0, .bool false, .string ⟨#[]⟩] 30))) := HB1.out.alloc HB1.out.size _
        refine hK'.out _ (w8.drew.alloc (.cells #[.bool false, .int .u32 0, .bool false, .string ⟨#[]⟩] 30)) HB3.out (fun hHeld => ?_)
        clear hK' K' hHeld
        have HRz : Hid (RowT 30 (w8.drew.alloc (.cells #[.bool false, .int .u32 0, .bool false, .string ⟨#[]⟩] 30)) w8.heap.size #[.bool false, .int .u32 0, .bool false, .string ⟨#[]⟩]) := RowT.new 30 w8.drew #[.bool false, .int .u32 0, .bool false, .string ⟨#[]⟩]
        have hlt8 := (HC.out _ (Below.refl _ _)).bx.row.lt
        have hne : W.heap.size ≠ w8.heap.size := by omega
        have hge : W.heap.size ≤ w8.heap.size := by omega
        have hge8 : w8.heap.size ≤ w8.heap.size := Nat.le_refl _
        generalize w8.drew.alloc (.cells #[.bool false, .int .u32 0, .bool false, .string ⟨#[]⟩] 30) = w9 at HB3 HRz ⊢
        refine Hl.consL (i := 8) rfl (by kernel_rfl) (fun K' hK' => ?_)
        go_simp
        go_at_call 15
        refine (HFy.out _ HB3.out).mono ?_
        rintro e w10 ⟨rfl, hb9⟩
        go_simp
        have HB5 : Hid (Below w8.heap.size w8 w10) := HB3.out.trans (hb9.mono HB3.out.size)
        replace HRz : Hid (RowT 30 w10 w8.heap.size #[.bool false, .int .u32 0, .bool false, .string ⟨#[]⟩]) := HRz.out.on hb9
        refine hK'.out _ _ HB5.out (fun hHeld => ?_)
        clear hK' K' hHeld hb9
        refine Hl.takeL (i := 9) (d := 102) (v := ?_) rfl (by kernel_rfl) (by kernel_rfl) (by kernel_rfl) (fun _ _ _ h => h) (by rfl) ?_ (by first | assumption | trivial) ?_
        rotate_left
        · intro w hSw; skip; go_simp; (try with_reducible rfl)
        simp only [Act.put, List.setIfInBounds_toArray, List.set_cons_zero, List.set_cons_succ]
        refine Hl.takeL (i := 10) (d := 112) (v := ?_) rfl (by kernel_rfl) (by kernel_rfl) (by kernel_rfl) (fun _ _ _ h => h) (by rfl) ?_ (by first | assumption | trivial) ?_
        rotate_left
        · intro w hSw; skip; go_simp; (try with_reducible rfl)
        simp only [Act.put, List.setIfInBounds_toArray, List.set_cons_zero, List.set_cons_succ]
        refine Hl.takeL (i := 11) (d := 113) (v := ?_) rfl (by kernel_rfl) (by kernel_rfl) (by kernel_rfl) (fun _ _ _ h => h) (by rfl) ?_ (by first | assumption | trivial) ?_
        rotate_left
        · intro w hSw; skip; go_simp; (try with_reducible rfl)
        simp only [Act.put, List.setIfInBounds_toArray, List.set_cons_zero, List.set_cons_succ]
        have HMz : Hid (Mr W w10 W.heap.size m a []) := HC.out _ HB5.out
        have HBz : Hid (Bel8 w8 w10 w8.heap.size #[.bool false, .int .u32 (id : Int), .bool false, .string d]) := Bel8.of HB5.out
        refine Hl.consL (i := 13) rfl (by kernel_rfl) (fun K' hK' => ?_)
        refine Hl.step_store_row rfl 30 (.tmp 24) (.tmp 112) rfl (w8.heap.size) #[.bool false, .int .u32 (id : Int), .bool false, .string d] rfl rfl 30 _ HRz.out finfo21 rfl (by simp [Value.oneCell']) ?_
        have HM9 : Hid (Mr W ((w10).setRow (w8.heap.size) #[.bool false, .int .u32 (id : Int), .bool false, .string d]) W.heap.size m a [(30, w8.heap.size, #[.bool false, .int .u32 (id : Int), .bool false, .string d])]) := Mr.row HMz.out HRz.out hne hge _
        have HB4 : Hid (Below w8.heap.size w8 ((w10).setRow (w8.heap.size) #[.bool false, .int .u32 (id : Int), .bool false, .string d])) := HBz.out.trans' hge8
        refine hK'.out _ _ HB4.out (fun hHeld => ?_)
        clear hK' K' hHeld
        refine Hl.takeL (i := 14) (d := 25) (v := ?_) rfl (by kernel_rfl) (by kernel_rfl) (by kernel_rfl) (fun _ _ _ h => h) (by rfl) ?_ (by first | assumption | trivial) ?_
        rotate_left
        · intro w hSw; skip; go_simp; (try with_reducible rfl)
        simp only [Act.put, List.setIfInBounds_toArray, List.set_cons_zero, List.set_cons_succ]
        refine wpAnyH_done (by kernel_rfl) ?_ _
        go_wp2_with fail
        go_meet
        case rel => exact ⟨_, rfl, rfl, HM9⟩
    case rest =>
      obtain ⟨q, rfl, rfl, HM5⟩ := hcut
      have HX6 : Hid (RowT 30 wc q #[.bool false, .int .u32 (id : Int), .bool false, .string d]) := HM5.out.rows _ (List.mem_cons_self ..)
      have f0 := HX6.out.c 0 _ rfl
      have f1 := HX6.out.c 1 _ rfl
      have f2 := HX6.out.c 2 _ rfl
      have f3 := HX6.out.c 3 _ rfl
      obtain ⟨y0, y1, y2, y3, y4, y5, y6, y7, y8, y9, y10⟩ := HM5.out.bx.row.mat
      go_wp2_with fail
      refine (HPx _ HM5.out.bx.below HM5.out.bx.mem).mono ?_
      rintro e w10 ⟨rfl, hb⟩
      have HB : Hid (Below W.heap.size W w10) := HM5.out.bx.below.trans (hb.mono HM5.out.bx.below.size)
      clear hb HM5 HX6 f0 f1 f2 f3 HPx y0 y1 y2 y3 y4 y5 y6 y7 y8 y9 y10
      go_wp2
      go_ret
      refine ⟨rfl, ?_⟩
      exact HB.out.alloc HB.out.size _
end Go.Proofs.YtoinkaakiohclaaDoor.refmsgBack
