/- ConfigCuts: cut off, with more behind, a byte turned: it is none, or another matrix, whose bytes those are, for every matrix of few entries (others are let by), every place and every byte; no condition. -/
import Derived.Test.YtcdalfhmmipiaaaDoorP6
import Derived.ProofKit
import Derived.OpenShut
namespace Go.Proofs.YtcdalfhmmipiaaaDoor.configCuts
open Go.ChangeShapes Go.WideShapes Go.ChangeAt Go.RowKit
set_option linter.unusedVariables false
variable {Q : World → Prop}
theorem ext0 (l : List UInt8) (k : Nat) : (⟨l.toArray⟩ : ByteArray).extract 0 k = ⟨(l.take k).toArray⟩ := by
  apply ByteArray.ext
  apply Array.toList_inj.1
  rw [Lib.extract_data]
  simp
theorem xor_u8 (a b : UInt8) : bits .xor .u8 (a.toNat : Int) (b.toNat : Int) = ((a ^^^ b).toNat : Int) := by
  have ha := a.toNat_lt
  have hb := b.toNat_lt
  have hx : a.toNat ^^^ b.toNat < 2 ^ 8 := Nat.xor_lt_two_pow (by omega) (by omega)
  have h1 : (BitVec.ofInt 8 (a.toNat : Int)).toNat = a.toNat := by
    rw [BitVec.ofInt_natCast, BitVec.toNat_ofNat]; exact Nat.mod_eq_of_lt (by omega)
  have h2 : (BitVec.ofInt 8 (b.toNat : Int)).toNat = b.toNat := by
    rw [BitVec.ofInt_natCast, BitVec.toNat_ofNat]; exact Nat.mod_eq_of_lt (by omega)
  show IntKind.u8.wrap ((BitVec.ofInt 8 (a.toNat : Int) ^^^ BitVec.ofInt 8 (b.toNat : Int)).toNat : Int) = _
  rw [BitVec.toNat_xor, h1, h2, IntKind.wrap_u8, UInt8.toNat_xor]
  omega
/-- Bytes that lie in a block. -/
structure BC (w : World) (g : Nat) (l : List UInt8) : Prop where
  lt : g < w.heap.size
  c : ∀ j (hj : j < l.length), w.cell? ((⟨g, 0, none⟩ : Addr).add j) = some (.int .u8 (l[j].toNat : Int))
theorem BC.on {w w' : World} {g : Nat} {l : List UInt8} (h : BC w g l) (hb : Below w.heap.size w w') : BC w' g l := ⟨Nat.lt_of_lt_of_le h.lt hb.size, fun j hj => by have := h.c j hj; rw [Sg.add_at] at this ⊢; exact (hb.cell (p := ⟨g, 0 + j, none⟩) h.lt).trans this⟩
theorem BC.conv {w : World} {g c : Nat} {l : List UInt8} (h : BC w g l) : (convert 40 9 (.slice (some ⟨g, 0, none⟩) l.length c)).run Tryd.prog w = .ok (.string ⟨l.toArray⟩) w :=
  run_convert_bytes_back (P := Tryd.prog) w 40 9 5 ⟨g, 0, none⟩ c l Tryd.underlying40 Tryd.underlying5 Tryd.underlying9 h.c
theorem bytes_new (w : World) (l : List UInt8) : ∃ (c : Nat) (w' : World), (convert 9 40 (.string ⟨l.toArray⟩)).run Tryd.prog w = .ok (.slice (some ⟨w.heap.size, 0, none⟩) l.length c) w' ∧ (∀ j (hj : j < l.length), w'.cell? ⟨w.heap.size, j, none⟩ = some (.int .u8 (l[j].toNat : Int))) ∧ (∀ j, j < l.length → w'.frozen? ⟨w.heap.size, j, none⟩ = false) ∧ Below w.heap.size w w' ∧ l.length ≤ c := by
  have hsz : (⟨l.toArray⟩ : ByteArray).size = l.length := by show l.toArray.size = _; simp
  have h := run_bytes_of_string (P := Tryd.prog) w 9 40 5 ⟨l.toArray⟩ Tryd.underlying9 Tryd.underlying40 Tryd.underlying5
  rw [hsz] at h
  have hge := grownCap_ge w l.length 0 5
  have hh := heap_alloc_new w.drew (.cells (bytesRow ⟨l.toArray⟩ (grownCap w l.length 0 5)) 5 ((bytesRow ⟨l.toArray⟩ (grownCap w l.length 0 5)).size, (bytesRow ⟨l.toArray⟩ (grownCap w l.length 0 5)).size + 1))
  have hbs : l.length ≤ (bytesRow ⟨l.toArray⟩ (grownCap w l.length 0 5)).size := by unfold bytesRow; simp
  refine ⟨_, _, h, fun j hj => ?_, fun j hj => ?_, ((Below.refl _ _).drew).alloc (Nat.le_refl _) _, hge⟩
  · refine (cell_of_row _ _ _ _ _ _ hh).trans ?_
    unfold bytesRow
    rw [Array.getElem?_append_left (by simpa using hj)]
    simp [hj]
  · unfold World.frozen?
    have hh' : (w.drew.alloc (.cells (bytesRow ⟨l.toArray⟩ (grownCap w l.length 0 5)) 5 ((bytesRow ⟨l.toArray⟩ (grownCap w l.length 0 5)).size, (bytesRow ⟨l.toArray⟩ (grownCap w l.length 0 5)).size + 1))).heap[w.heap.size]? = _ := hh
    simp only [hh']
    simp
    omega
set_option maxRecDepth 100000 in
set_option maxHeartbeats 4000000 in
theorem walkA (hQ : ∀ w w', Q w → Below w.heap.size w w' → Q w') (S : ConfSpec Q) (m : Mx.M) (a : Ma) {W0 : World} (hm : MIn W0 m a) (hwf : Mx.Wf m) (A : Int) (hA0 : (Lit.int .u16 A).wf = true) (B0 : Int) (hB0 : (Lit.int .u8 B0).wf = true) (W : World) (hw0 : W = W0) (hW : Q W) :
    Calls Tryd.prog 5 #[mV m a, .int .u16 A, .int .u8 B0] W fun e w' => e = .returned (.bool true) ∧ Below W.heap.size W w' := by
  subst hw0
  have HQ : Hid (∀ w, Below W.heap.size W w → Q w) := fun w hb => hQ W w hW hb
  have HK : Hid (∀ w, Below W.heap.size W w → Calls Tryd.prog 9 #[] w fun e w' => e = .returned (.bool true) ∧ Below w.heap.size w w') := fun w hb => known13_any hQ S w (HQ.out _ hb)
  have HPa : Hid (∀ w b, Below W.heap.size W w → b.length ≤ 1000 → Calls Tryd.prog 12 #[.string ⟨b.toArray⟩] w fun e w' => Told b e w' ∧ Below w.heap.size w w') := fun w b h hl => S.parse w b (HQ.out _ h) hl
  have HPr : Hid (∀ w, MIn w m a → Below W.heap.size W w → Mx.Small m → Calls Tryd.prog 11 #[mV m a] w fun e w' => e = .returned (.string ⟨(Pq.pr m).toArray⟩) ∧ Below w.heap.size w w') := fun w h hb hs => S.print w m a (HQ.out _ hb) h hs hwf
  have HSz : Hid (∀ w, MIn w m a → Below W.heap.size W w → Mx.Small m → Calls Tryd.prog 14 #[mV m a] w fun e w' => e = .returned (.int .i64 ((Pq.pr m).length : Int)) ∧ Below w.heap.size w w') := fun w h hb hs => S.size w m a (HQ.out _ hb) h hs hwf
  have HX : Hid (Bx W (W.alloc (.cells (mCs m a) 27)) W.heap.size m a) := Bx.mk' hm
  obtain ⟨A, rfl, hA1⟩ : ∃ n : Nat, A = (n : Int) ∧ n < 65536 := by
    obtain ⟨h1, h2⟩ := bounds_u16 hA0
    obtain ⟨n, rfl⟩ := Int.eq_ofNat_of_zero_le h1
    exact ⟨n, rfl, by omega⟩
  obtain ⟨B, rfl⟩ : ∃ B : UInt8, B0 = (B.toNat : Int) := by
    obtain ⟨h1, h2⟩ := bounds_u8 hB0
    obtain ⟨n, rfl⟩ := Int.eq_ofNat_of_zero_le h1
    exact ⟨UInt8.ofNat n, by rw [UInt8.toNat_ofNat']; omega⟩
  clear hm hwf hQ hW hA0 hB0
  go_enter Tryd.func5, Tryd.ntmps5
  go_wp2_with fail
  refine (HK.out _ HX.out.below).mono ?_
  rintro e w1 ⟨rfl, hb⟩
  replace HX : Hid (Bx W w1 W.heap.size m a) := HX.out.on hb
  clear hb HK
  obtain ⟨y0, y1, y2, y3, y4, y5, y6, y7, y8, y9, y10⟩ := HX.out.row.mat
  go_wp2_with fail
  refine (few13_any w1 m a).mono ?_
  rintro e w2 ⟨rfl, hb⟩
  replace HX : Hid (Bx W w2 W.heap.size m a) := HX.out.on hb
  clear y0 y1 y10 y2 y3 y4 y5 y6 y7 y8 y9
  clear hb
  cases hfw : Mx.few m
  · go_wp2
    go_ret
    exact ⟨rfl, HX.out.below⟩
  have HS : Hid (Mx.Small m) := Mx.few_small hfw
  obtain ⟨y0, y1, y2, y3, y4, y5, y6, y7, y8, y9, y10⟩ := HX.out.row.mat
  cases hi : Mx.is m
  · have hp : Pq.pr m = [] := Pq.pr_no hi
    rw [hp] at HPr
    go_wp2_with fail
    refine (HPr.out _ HX.out.mem HX.out.below HS.out).mono ?_
    rintro e w3 ⟨rfl, hb⟩
    replace HX : Hid (Bx W w3 W.heap.size m a) := HX.out.on hb
    clear y0 y1 y10 y2 y3 y4 y5 y6 y7 y8 y9
    clear hb
    go_wp2
    go_ret
    exact ⟨rfl, HX.out.below⟩
  obtain ⟨t, hp⟩ : ∃ t, Pq.pr m = 79 :: t := ⟨_, by rw [Pq.pr_is hi]; rfl⟩
  have HO : Hid (Pq.Of (79 :: t) m) := ⟨hi, hp⟩
  have hln : t.length + 1 ≤ 195 := by have := Pq.pr_len_le m; rw [hp] at this; simpa using this
  have hsz : (⟨((79 : UInt8) :: t).toArray⟩ : ByteArray).size = t.length + 1 := by show ((79 : UInt8) :: t).toArray.size = _; simp
  rw [hp] at HPr
  obtain ⟨K, hK⟩ : ∃ K, A % (t.length + 1) = K := ⟨_, rfl⟩
  have hKl : K < t.length + 1 := by rw [← hK]; exact Nat.mod_lt _ (by omega)
  have HN1 : Hid (∀ n, ¬ Pq.Of ((79 :: t).take K) n) := fun n => by rw [← hp]; exact Pq.cut_none hi K (by rw [hp]; simpa using hKl)
  have HN2 : Hid (∀ n, ¬ Pq.Of (79 :: (t ++ [B])) n) := fun n => by have := Pq.more_none (n := n) hi [B] (by simp); rw [hp] at this; exact this
  go_wp2_with fail
  refine (HPr.out _ HX.out.mem HX.out.below HS.out).mono ?_
  rintro e w3 ⟨rfl, hb⟩
  replace HX : Hid (Bx W w3 W.heap.size m a) := HX.out.on hb
  clear y0 y1 y10 y2 y3 y4 y5 y6 y7 y8 y9
  clear hb
  have e1 : (A : Int).tmod ((t.length : Int) + 1) = (K : Int) := by rw [Int.tmod_eq_emod_of_nonneg (by omega), ← hK]; simp
  have k1 : (K : Int) < (t.length : Int) + 1 := by omega
  have k2 : (t.length : Int) + 1 ≤ 195 := by omega
  have k3 : ¬ ((t.length : Int) + 1 = 0) := by omega
  have a1 : IntKind.i64.wrap (A : Int) = (A : Int) := by rw [IntKind.wrap_i64]; omega
  clear hK hp
  go_wp2_with fail
  rw [ext0]
  refine (HPa.out _ ((79 :: t).take K) HX.out.below (by rw [List.length_take]; simp; omega)).mono ?_
  rintro e w4 ⟨ht, hb⟩
  replace HX : Hid (Bx W w4 W.heap.size m a) := HX.out.on hb
  clear hb
  rcases ht with ⟨n, a4, hof, _⟩ | ⟨_, a4, rfl, hmi⟩
  · exact absurd hof (HN1.out n)
  clear hmi
  replace HX : Hid (Bx W (w4.alloc (.cells #[.int .i64 Mx.nil0.level, .int .i64 Mx.nil0.nodes, .int .i64 Mx.nil0.cycles, .int .i64 Mx.nil0.length, .int .i64 Mx.nil0.enable, .int .i64 Mx.nil0.unit, .int .i64 Mx.nil0.init, .int .u32 (Mx.nil0.ref : Int), .slice a4.s1 Mx.nil0.masters.length a4.c1, .slice a4.s2 Mx.nil0.messages.length a4.c2, .slice a4.s3 Mx.nil0.windows.length a4.c3] 27)) W.heap.size m a) := HX.out.al _
  dsimp only [mV, mCs]
  go_upto_region 10 with fail
  generalize (w4.alloc (.cells #[.int .i64 Mx.nil0.level, .int .i64 Mx.nil0.nodes, .int .i64 Mx.nil0.cycles, .int .i64 Mx.nil0.length, .int .i64 Mx.nil0.enable, .int .i64 Mx.nil0.unit, .int .i64 Mx.nil0.init, .int .u32 (Mx.nil0.ref : Int), .slice a4.s1 Mx.nil0.masters.length a4.c1, .slice a4.s2 Mx.nil0.messages.length a4.c2, .slice a4.s3 Mx.nil0.windows.length a4.c3] 27)) = v4 at HX ⊢
  have hc1 : (convert 40 9 (.slice (some ⟨v4.heap.size, 0, none⟩) 1 1)).run Tryd.prog (v4.alloc (.cells #[.int .u8 (B.toNat : Int)] 5)) = .ok (.string ⟨#[B]⟩) (v4.alloc (.cells #[.int .u8 (B.toNat : Int)] 5)) := (By.new W.heap.size v4 [B] 1 rfl HX.out.below.size (by decide)).conv
  have hcat : (⟨((79 : UInt8) :: t).toArray⟩ : ByteArray) ++ ⟨#[B]⟩ = ⟨(79 :: (t ++ [B])).toArray⟩ := cat_bytes (79 :: t) [B]
  replace HX : Hid (Bx W (v4.alloc (.cells #[.int .u8 (B.toNat : Int)] 5)) W.heap.size m a) := HX.out.al _
  go_wp2_with fail
  refine (HPa.out _ (79 :: (t ++ [B])) HX.out.below (by simp; omega)).mono ?_
  rintro e w5 ⟨ht, hb⟩
  replace HX : Hid (Bx W w5 W.heap.size m a) := HX.out.on hb
  clear hb
  rcases ht with ⟨n, a5, hof, _⟩ | ⟨_, a5, rfl, hmi⟩
  · exact absurd hof (HN2.out n)
  clear hmi hc1 hcat
  replace HX : Hid (Bx W (w5.alloc (.cells #[.int .i64 Mx.nil0.level, .int .i64 Mx.nil0.nodes, .int .i64 Mx.nil0.cycles, .int .i64 Mx.nil0.length, .int .i64 Mx.nil0.enable, .int .i64 Mx.nil0.unit, .int .i64 Mx.nil0.init, .int .u32 (Mx.nil0.ref : Int), .slice a5.s1 Mx.nil0.masters.length a5.c1, .slice a5.s2 Mx.nil0.messages.length a5.c2, .slice a5.s3 Mx.nil0.windows.length a5.c3] 27)) W.heap.size m a) := HX.out.al _
  dsimp only [mV, mCs]
  go_upto_region 11 with fail
  generalize (w5.alloc (.cells #[.int .i64 Mx.nil0.level, .int .i64 Mx.nil0.nodes, .int .i64 Mx.nil0.cycles, .int .i64 Mx.nil0.length, .int .i64 Mx.nil0.enable, .int .i64 Mx.nil0.unit, .int .i64 Mx.nil0.init, .int .u32 (Mx.nil0.ref : Int), .slice a5.s1 Mx.nil0.masters.length a5.c1, .slice a5.s2 Mx.nil0.messages.length a5.c2, .slice a5.s3 Mx.nil0.windows.length a5.c3] 27)) = v5 at HX ⊢
  obtain ⟨L, hL⟩ : ∃ L, (79 : UInt8) :: t = L := ⟨_, rfl⟩
  have hLl : L.length = t.length + 1 := by rw [← hL]; simp
  rw [hL] at HO ⊢
  obtain ⟨c, v6, hr6, hc6, hf6, hb6, hcl⟩ := bytes_new v5 L
  have hK6 : K < L.length := by omega
  have x6 := hc6 K hK6
  have f6 := hf6 K hK6
  obtain ⟨X, hX⟩ : ∃ X, L[K] = X := ⟨_, rfl⟩
  rw [hX] at x6
  rw [hLl] at hr6
  have hlt6 : v5.heap.size < v6.heap.size := by
    cases hh : v6.heap[v5.heap.size]? with
    | none => simp [World.cell?, hh] at x6
    | some o => exact (Array.getElem?_eq_some_iff.1 hh).1
  have ex := xor_u8 X B
  obtain ⟨Y, hY⟩ : ∃ Y, X ^^^ B = Y := ⟨_, rfl⟩
  rw [hY] at ex
  obtain ⟨L2, hL2⟩ : ∃ L2, L.set K Y = L2 := ⟨_, rfl⟩
  have HL2 : Hid (L2.length ≤ 1000) := by show _ ≤ _; rw [← hL2, List.length_set]; omega
  have HB0 : Hid (B = 0 → L2 = L) := fun hB => by
    rw [← hL2, ← hY, hB, ← hX]
    simp
  replace HX : Hid (Bx W (v6.setCell ⟨v5.heap.size, K, none⟩ (.int .u8 (Y.toNat : Int))) W.heap.size m a) := HX.out.on (hb6.setCell (Nat.le_refl _) _)
  have HC : Hid (BC (v6.setCell ⟨v5.heap.size, K, none⟩ (.int .u8 (Y.toNat : Int))) v5.heap.size L2) := ⟨by simpa using hlt6, fun j hj => by
    rw [Sg.add_at, Nat.zero_add]
    subst hL2
    rw [List.length_set] at hj
    by_cases hjk : j = K
    · subst hjk
      rw [World.cell?_setCell_same _ _ _ x6]
      simp
    · rw [World.cell?_setCell_other _ _ _ _ (show (⟨v5.heap.size, K, none⟩ : Addr) ≠ ⟨v5.heap.size, j, none⟩ from fun e => hjk (Addr.mk.inj e).2.1.symm)]
      rw [hc6 j hj, List.getElem_set_ne (by omega)]⟩
  have hLL : L2.length = t.length + 1 := by rw [← hL2, List.length_set, hLl]
  have hr8 := HC.out.conv (c := c)
  rw [hLL] at hr8
  clear hX hY hL2 hc6 hf6 hb6
  go_wp2_with fail
  refine (HPa.out _ L2 HX.out.below HL2.out).mono ?_
  rintro e w8 ⟨ht, hb⟩
  replace HX : Hid (Bx W w8 W.heap.size m a) := HX.out.on hb
  replace HC : Hid (BC w8 v5.heap.size L2) := HC.out.on hb
  clear hb hr8 hr6 x6 f6 ex
  rcases ht with ⟨n, a8, hof, rfl, hmi⟩ | ⟨hno, a8, rfl, hmi⟩
  · have HY : Hid (Bx W (w8.alloc (.cells #[.int .i64 n.level, .int .i64 n.nodes, .int .i64 n.cycles, .int .i64 n.length, .int .i64 n.enable, .int .i64 n.unit, .int .i64 n.init, .int .u32 (n.ref : Int), .slice a8.s1 n.masters.length a8.c1, .slice a8.s2 n.messages.length a8.c2, .slice a8.s3 n.windows.length a8.c3] 27)) w8.heap.size n a8) := Bx.make HX.out.below hmi
    replace HX : Hid (Bx W (w8.alloc (.cells #[.int .i64 n.level, .int .i64 n.nodes, .int .i64 n.cycles, .int .i64 n.length, .int .i64 n.enable, .int .i64 n.unit, .int .i64 n.init, .int .u32 (n.ref : Int), .slice a8.s1 n.masters.length a8.c1, .slice a8.s2 n.messages.length a8.c2, .slice a8.s3 n.windows.length a8.c3] 27)) W.heap.size m a) := HX.out.al _
    replace HC : Hid (BC (w8.alloc (.cells #[.int .i64 n.level, .int .i64 n.nodes, .int .i64 n.cycles, .int .i64 n.length, .int .i64 n.enable, .int .i64 n.unit, .int .i64 n.init, .int .u32 (n.ref : Int), .slice a8.s1 n.masters.length a8.c1, .slice a8.s2 n.messages.length a8.c2, .slice a8.s3 n.windows.length a8.c3] 27)) v5.heap.size L2) := HC.out.on ((Below.refl _ _).alloc (Nat.le_refl _) _)
    dsimp only [mV, mCs]
    go_upto_region 14 with fail
    generalize (w8.alloc (.cells #[.int .i64 n.level, .int .i64 n.nodes, .int .i64 n.cycles, .int .i64 n.length, .int .i64 n.enable, .int .i64 n.unit, .int .i64 n.init, .int .u32 (n.ref : Int), .slice a8.s1 n.masters.length a8.c1, .slice a8.s2 n.messages.length a8.c2, .slice a8.s3 n.windows.length a8.c3] 27)) = v8 at HX HY HC ⊢
    have HP8 : Hid (∀ w', Below v8.heap.size v8 w' → Calls Tryd.prog 11 #[mV n a8] w' fun e w'' => e = .returned (.string ⟨L2.toArray⟩) ∧ Below w'.heap.size w' w'') := fun w' hb => by
      have := S.print w' n a8 (HQ.out _ (HY.out.on hb).below) (HY.out.on hb).mem (Mx.small_is hof.1) (Mx.wf_is hof.1)
      rw [hof.2] at this
      exact this
    have HC8 : Hid (∀ w', Below v8.heap.size v8 w' → (convert 40 9 (.slice (some ⟨v5.heap.size, 0, none⟩) (t.length + 1) c)).run Tryd.prog w' = .ok (.string ⟨L2.toArray⟩) w') := fun w' hb => by
      have := (HC.out.on hb).conv (c := c)
      rw [hLL] at this
      exact this
    have HB : Hid (Below W.heap.size W v8) := HX.out.below
    have HR : Hid (∀ w', Below v8.heap.size v8 w' → RowT 27 w' w8.heap.size (mCs n a8)) := fun w' hb => (HY.out.on hb).row
    clear hmi hof HX HC
    cases hB : ((B.toNat : Int) != 0)
    · go_wp2_with fail
      refine Lw.wp_region_quiet_below (by kernel_rfl) (by kernel_rfl) ?_
      repeat (first
        | go_big_quiet_skip
        | (go_big_quiet_want; go_big_quiet_op; go_big_quiet_on)
        | (go_big_quiet_want; go_big_quiet_op; apply Exists.intro; refine ⟨fun _ hb' => ?_, ?_⟩; (first
          | exact Lw.val_rfl _
          | (go_at_call 11; exact Lw.calls_below hb' (HP8.out _ hb'))
          | (simp [go_sem, (HR.out _ hb').mat.1, (HR.out _ hb').mat.2.1, (HR.out _ hb').mat.2.2.1, (HR.out _ hb').mat.2.2.2.1, (HR.out _ hb').mat.2.2.2.2.1, (HR.out _ hb').mat.2.2.2.2.2.1, (HR.out _ hb').mat.2.2.2.2.2.2.1, (HR.out _ hb').mat.2.2.2.2.2.2.2.1, (HR.out _ hb').mat.2.2.2.2.2.2.2.2.1, (HR.out _ hb').mat.2.2.2.2.2.2.2.2.2.1, (HR.out _ hb').mat.2.2.2.2.2.2.2.2.2.2]; rfl)
          | (simp [go_sem, HC8.out _ hb']; rfl)); go_big_quiet_on))
      refine wpQuiet_nil ?_
      intro wz hbz
      have HBz : Hid (Below W.heap.size W wz) := HB.out.trans (hbz.mono HB.out.size)
      go_wp2
      go_ret
      exact ⟨rfl, HBz.out⟩
    · go_wp2_with fail
      refine Lw.wp_region_quiet_below (by kernel_rfl) (by kernel_rfl) ?_
      repeat (first
        | go_big_quiet_skip
        | (go_big_quiet_want; go_big_quiet_op; go_big_quiet_on)
        | (go_big_quiet_want; go_big_quiet_op; apply Exists.intro; refine ⟨fun _ hb' => ?_, ?_⟩; (first
          | exact Lw.val_rfl _
          | (go_at_call 11; exact Lw.calls_below hb' (HP8.out _ hb'))
          | (simp [go_sem, (HR.out _ hb').mat.1, (HR.out _ hb').mat.2.1, (HR.out _ hb').mat.2.2.1, (HR.out _ hb').mat.2.2.2.1, (HR.out _ hb').mat.2.2.2.2.1, (HR.out _ hb').mat.2.2.2.2.2.1, (HR.out _ hb').mat.2.2.2.2.2.2.1, (HR.out _ hb').mat.2.2.2.2.2.2.2.1, (HR.out _ hb').mat.2.2.2.2.2.2.2.2.1, (HR.out _ hb').mat.2.2.2.2.2.2.2.2.2.1, (HR.out _ hb').mat.2.2.2.2.2.2.2.2.2.2]; rfl)
          | (simp [go_sem, HC8.out _ hb']; rfl)); go_big_quiet_on))
      refine wpQuiet_nil ?_
      intro wz hbz
      have HBz : Hid (Below W.heap.size W wz) := HB.out.trans (hbz.mono HB.out.size)
      go_wp2
      go_ret
      exact ⟨rfl, HBz.out⟩
  · have HY : Hid (Bx W (w8.alloc (.cells #[.int .i64 Mx.nil0.level, .int .i64 Mx.nil0.nodes, .int .i64 Mx.nil0.cycles, .int .i64 Mx.nil0.length, .int .i64 Mx.nil0.enable, .int .i64 Mx.nil0.unit, .int .i64 Mx.nil0.init, .int .u32 (Mx.nil0.ref : Int), .slice a8.s1 Mx.nil0.masters.length a8.c1, .slice a8.s2 Mx.nil0.messages.length a8.c2, .slice a8.s3 Mx.nil0.windows.length a8.c3] 27)) w8.heap.size Mx.nil0 a8) := Bx.make HX.out.below hmi
    replace HX : Hid (Bx W (w8.alloc (.cells #[.int .i64 Mx.nil0.level, .int .i64 Mx.nil0.nodes, .int .i64 Mx.nil0.cycles, .int .i64 Mx.nil0.length, .int .i64 Mx.nil0.enable, .int .i64 Mx.nil0.unit, .int .i64 Mx.nil0.init, .int .u32 (Mx.nil0.ref : Int), .slice a8.s1 Mx.nil0.masters.length a8.c1, .slice a8.s2 Mx.nil0.messages.length a8.c2, .slice a8.s3 Mx.nil0.windows.length a8.c3] 27)) W.heap.size m a) := HX.out.al _
    replace HC : Hid (BC (w8.alloc (.cells #[.int .i64 Mx.nil0.level, .int .i64 Mx.nil0.nodes, .int .i64 Mx.nil0.cycles, .int .i64 Mx.nil0.length, .int .i64 Mx.nil0.enable, .int .i64 Mx.nil0.unit, .int .i64 Mx.nil0.init, .int .u32 (Mx.nil0.ref : Int), .slice a8.s1 Mx.nil0.masters.length a8.c1, .slice a8.s2 Mx.nil0.messages.length a8.c2, .slice a8.s3 Mx.nil0.windows.length a8.c3] 27)) v5.heap.size L2) := HC.out.on ((Below.refl _ _).alloc (Nat.le_refl _) _)
    dsimp only [mV, mCs]
    go_upto_region 14 with fail
    generalize (w8.alloc (.cells #[.int .i64 Mx.nil0.level, .int .i64 Mx.nil0.nodes, .int .i64 Mx.nil0.cycles, .int .i64 Mx.nil0.length, .int .i64 Mx.nil0.enable, .int .i64 Mx.nil0.unit, .int .i64 Mx.nil0.init, .int .u32 (Mx.nil0.ref : Int), .slice a8.s1 Mx.nil0.masters.length a8.c1, .slice a8.s2 Mx.nil0.messages.length a8.c2, .slice a8.s3 Mx.nil0.windows.length a8.c3] 27)) = v8 at HX HY HC ⊢
    have hB0 : B ≠ 0 := fun e => hno m (by rw [HB0.out e]; exact HO.out)
    have hB1 : ((B.toNat : Int) != 0) = true := by
      have : B.toNat ≠ 0 := fun e => hB0 (UInt8.toNat_inj.1 e)
      simpa [bne] using this
    have HB : Hid (Below W.heap.size W v8) := HX.out.below
    clear hmi hno HX HC hB0 HY
    go_wp2_with fail
    refine Lw.wp_region_quiet_below (by kernel_rfl) (by kernel_rfl) ?_
    repeat (first
      | go_big_quiet_skip
      | (go_big_quiet_want; go_big_quiet_op; go_big_quiet_on)
      | (go_big_quiet_want; go_big_quiet_op; apply Exists.intro; refine ⟨fun _ hb' => ?_, ?_⟩; (first
        | exact Lw.val_rfl _); go_big_quiet_on))
    refine wpQuiet_nil ?_
    intro wz hbz
    have HBz : Hid (Below W.heap.size W wz) := HB.out.trans (hbz.mono HB.out.size)
    go_wp2
    go_ret
    exact ⟨rfl, HBz.out⟩
end Go.Proofs.YtcdalfhmmipiaaaDoor.configCuts
