/- MatrixFrames: each message's frame is found as it, unless another one ahead of it has its identifier; for every matrix of few entries and every data of at most 8 bytes (others are let by); no condition. -/
import Derived.Test.YthknkolnalobjaaDoorB4
import Derived.Test.YthknkolnalobjaaDoorB1
import Derived.ProofKit
import Derived.OpenShut
namespace Go.Proofs.YthknkolnalobjaaDoor.matrixFrames
open Go.ChangeShapes Go.WideShapes Go.ChangeAt Go.RowKit
set_option linter.unusedVariables false
variable {Q : World → Prop}
theorem find_rtr (m : Mx.M) (e : Bool) (id : Nat) : Mx.find m e true id = -1 := Mx.firstAt_none (fun j y _ => by cases e <;> rfl)
theorem find_self {m : Mx.M} {k : Nat} {x : Mx.Msg} (hx : m.messages[k]? = some x) : ∃ (k' : Nat) (y : Mx.Msg), Mx.find m false false x.id = (k' : Int) ∧ k' ≤ k ∧ m.messages[k']? = some y ∧ y.id = x.id := by
  unfold Mx.find Mx.firstAt
  cases hf : m.messages.findIdx? (fun y : Mx.Msg => !false && !false && y.id == x.id) with
  | none =>
    rw [List.findIdx?_eq_none_iff] at hf
    have := hf x (List.mem_of_getElem? hx)
    simp at this
  | some i =>
    rw [List.findIdx?_eq_some_iff_getElem] at hf
    obtain ⟨h1, h2, h3⟩ := hf
    refine ⟨i, m.messages[i], rfl, ?_, List.getElem?_eq_getElem h1, by simpa using h2⟩
    by_cases hle : i ≤ k
    · exact hle
    · have hk := h3 k (by omega)
      obtain ⟨hk1, hk2⟩ := List.getElem?_eq_some_iff.1 hx
      rw [hk2] at hk
      simp at hk
set_option maxRecDepth 100000 in
set_option maxHeartbeats 8000000 in
theorem walkA (hQ : ∀ w w', Q w → Below w.heap.size w w' → Q w') (S : MatSpec Q) (m : Mx.M) (a : Ma) {W0 : World} (hm : MIn W0 m a) (hwf : Mx.Wf m) (d : ByteArray) (hd : d.size ≤ maxLen) (W : World) (hw0 : W = W0) (hW : Q W) :
    Calls Tryd.prog 5 #[mV m a, .string d] W fun e w' => e = .returned (.bool true) ∧ Below W.heap.size W w' := by
  subst hw0
  have HX : Hid (Bx W (W.alloc (.cells (mCs m a) 27)) W.heap.size m a) := Bx.mk' hm
  have HQ : Hid (∀ w, Below W.heap.size W w → Q w) := fun w hb => hQ W w hW hb
  have HK : Hid (∀ w, Below W.heap.size W w → Calls Tryd.prog 8 #[] w fun e w' => e = .returned (.bool true) ∧ Below w.heap.size w w') := fun w hb => known12_any hQ S w (HQ.out _ hb)
  have HWf : Hid (Mx.Wf m) := hwf
  have HY : Hid (∀ w, RowT 27 w W.heap.size (mCs m a) → (w.cell? ⟨W.heap.size, 0, none⟩ = some (.int .i64 m.level) ∧ w.cell? ⟨W.heap.size, 1, none⟩ = some (.int .i64 m.nodes) ∧ w.cell? ⟨W.heap.size, 2, none⟩ = some (.int .i64 m.cycles) ∧ w.cell? ⟨W.heap.size, 3, none⟩ = some (.int .i64 m.length) ∧ w.cell? ⟨W.heap.size, 4, none⟩ = some (.int .i64 m.enable) ∧ w.cell? ⟨W.heap.size, 5, none⟩ = some (.int .i64 m.unit) ∧ w.cell? ⟨W.heap.size, 6, none⟩ = some (.int .i64 m.init) ∧ w.cell? ⟨W.heap.size, 7, none⟩ = some (.int .u32 (m.ref : Int)) ∧
      w.cell? ⟨W.heap.size, 8, none⟩ = some (.slice a.s1 m.masters.length a.c1) ∧ w.cell? ⟨W.heap.size, 9, none⟩ = some (.slice a.s2 m.messages.length a.c2) ∧ w.cell? ⟨W.heap.size, 10, none⟩ = some (.slice a.s3 m.windows.length a.c3))) := fun w h => h.mat
  clear hm hwf hQ hW hd
  go_enter Tryd.func5, Tryd.ntmps5
  go_wp2_with fail
  refine (HK.out _ HX.out.below).mono ?_
  rintro e w1 ⟨rfl, hb1⟩
  replace HX : Hid (Bx W w1 W.heap.size m a) := HX.out.on hb1
  clear hb1 HK
  obtain ⟨y0, y1, y2, y3, y4, y5, y6, y7, y8, y9, y10⟩ := HY.out _ HX.out.row
  go_wp2_with fail
  refine (few12_any w1 m a).mono ?_
  rintro e w2 ⟨rfl, hb2⟩
  replace HX : Hid (Bx W w2 W.heap.size m a) := HX.out.on hb2
  clear hb2 y0 y1 y2 y3 y4 y5 y6 y7 y8 y9 y10
  obtain ⟨y0, y1, y2, y3, y4, y5, y6, y7, y8, y9, y10⟩ := HY.out _ HX.out.row
  cases hfw : Mx.few m
  · go_wp2
    go_ret
    exact ⟨rfl, HX.out.below⟩
  by_cases h8 : 8 < d.size
  · have h8i : (8 : Int) < (d.size : Int) := by omega
    go_wp2
    go_ret
    exact ⟨rfl, HX.out.below⟩
  have HS : Hid (Mx.Small m) := Mx.few_small hfw
  have h8i : ¬ ((8 : Int) < (d.size : Int)) := by omega
  have H8 : Hid (d.size ≤ 8) := by show _ ≤ _; omega
  have hlen : m.messages.length ≤ 20 := by simp [Mx.few] at hfw; omega
  have HL : Hid (∀ k, k < m.messages.length → ∃ x, m.messages[k]? = some x) := fun k hk => ⟨_, List.getElem?_eq_getElem hk⟩
  have HFr : Hid (∀ (w : World) (k : Nat) (x : Mx.Msg), Bx W w W.heap.size m a → m.messages[k]? = some x → Calls Tryd.prog 10 #[.agg (mCs m a), .int .i64 (k : Int), .string d] w fun e w' => e = .returned (.tuple #[.agg #[.bool false, .int .u32 (x.id : Int), .bool false, .string d], .bool true]) ∧ Below w.heap.size w w') := fun w k x h hx => by
    have hk : k < m.messages.length := (List.getElem?_eq_some_iff.1 hx).1
    have hf : Mx.fid m (k : Int) d.size = some x.id := by unfold Mx.fid; rw [if_pos ⟨by omega, H8.out⟩, Int.toNat_natCast, hx]; rfl
    have := S.frame w m a (k : Int) d (HQ.out _ h.below) h.mem HS.out HWf.out (WalkArith.wf_i64 ⟨by omega, by omega⟩) (by have := H8.out; omega)
    rw [hf] at this
    exact this
  have HFn : Hid (∀ (w : World), Bx W w W.heap.size m a → Calls Tryd.prog 10 #[.agg (mCs m a), .int .i64 (m.messages.length : Int), .string d] w fun e w' => e = .returned (.tuple #[.agg #[.bool false, .int .u32 0, .bool false, .string ByteArray.empty], .bool false]) ∧ Below w.heap.size w w') := fun w h => by
    have hf : Mx.fid m (m.messages.length : Int) d.size = none := by
      unfold Mx.fid
      split
      · rw [Int.toNat_natCast, List.getElem?_eq_none (Nat.le_refl _)]; rfl
      · rfl
    have := S.frame w m a (m.messages.length : Int) d (HQ.out _ h.below) h.mem HS.out HWf.out (WalkArith.wf_i64 ⟨by omega, by omega⟩) (by have := H8.out; omega)
    rw [hf] at this
    exact this
  have HFi : Hid (∀ (w : World) (rtr : Bool) (x : Mx.Msg), Bx W w W.heap.size m a → x ∈ m.messages → Calls Tryd.prog 17 #[.agg (mCs m a), .agg #[.bool false, .int .u32 (x.id : Int), .bool rtr, .string d]] w fun e w' => e = .returned (.int .i64 (Mx.find m false rtr x.id)) ∧ Below w.heap.size w w') := fun w rtr x h hx =>
    S.find w m a false rtr x.id d (HQ.out _ h.below) h.mem HS.out HWf.out (HWf.out.messages x hx).1
  obtain ⟨n, hn⟩ : ∃ n, m.messages.length = n := ⟨_, rfl⟩
  have HN : Hid (m.messages.length = n) := hn
  rw [hn] at hlen HL HFn y9
  clear hn hfw
  go_wp2_with fail
  go_loopw [5] (fun i wr => ∃ k : Nat, k ≤ n ∧ i = .int .i64 k ∧ Hid (Bx W wr W.heap.size m a)) (fun i _ => n - (intOf i).toNat)
  case atStart => exact ⟨0, Nat.zero_le _, rfl, HX⟩
  case round =>
    clear HX y0 y1 y2 y3 y4 y5 y6 y7 y8 y9 y10
    obtain ⟨k, hk, rfl, HX⟩ := hrel
    obtain ⟨y0, y1, y2, y3, y4, y5, y6, y7, y8, y9, y10⟩ := HY.out _ HX.out.row
    have hmC : mCs m a = #[.int .i64 m.level, .int .i64 m.nodes, .int .i64 m.cycles, .int .i64 m.length, .int .i64 m.enable, .int .i64 m.unit, .int .i64 m.init, .int .u32 (m.ref : Int), .slice a.s1 m.masters.length a.c1, .slice a.s2 m.messages.length a.c2, .slice a.s3 m.windows.length a.c3] := rfl
    rw [HN.out] at y9 hmC
    by_cases hlt : k < n
    · obtain ⟨x, hx⟩ := HL.out k hlt
      have ki : (k : Int) ≤ 20 := by omega
      go_wp2_with fail
      rw [← hmC]
      refine (HFr.out _ k x HX.out hx).mono ?_
      rintro e w3 ⟨rfl, hb3⟩
      have HXF : Hid (Bx W (w3.alloc (.cells #[.bool false, .int .u32 (x.id : Int), .bool false, .string d] 29)) W.heap.size m a) := (HX.out.on hb3).on ((Below.refl _ _).alloc (Nat.le_refl _) _)
      have HRF : Hid (RowT 29 (w3.alloc (.cells #[.bool false, .int .u32 (x.id : Int), .bool false, .string d] 29)) w3.heap.size #[.bool false, .int .u32 (x.id : Int), .bool false, .string d]) := RowT.new _ _ _
      clear hb3 HX y0 y1 y2 y3 y4 y5 y6 y7 y8 y9 y10
      obtain ⟨y0, y1, y2, y3, y4, y5, y6, y7, y8, y9, y10⟩ := HY.out _ HXF.out.row
      rw [HN.out] at y9
      have z0 : (w3.alloc (.cells #[.bool false, .int .u32 (x.id : Int), .bool false, .string d] 29)).cell? ⟨w3.heap.size, 0, none⟩ = some (.bool false) := HRF.out.c 0 _ rfl
      have z1 : (w3.alloc (.cells #[.bool false, .int .u32 (x.id : Int), .bool false, .string d] 29)).cell? ⟨w3.heap.size, 1, none⟩ = some (.int .u32 (x.id : Int)) := HRF.out.c 1 _ rfl
      have z2 : (w3.alloc (.cells #[.bool false, .int .u32 (x.id : Int), .bool false, .string d] 29)).cell? ⟨w3.heap.size, 2, none⟩ = some (.bool false) := HRF.out.c 2 _ rfl
      have z3 : (w3.alloc (.cells #[.bool false, .int .u32 (x.id : Int), .bool false, .string d] 29)).cell? ⟨w3.heap.size, 3, none⟩ = some (.string d) := HRF.out.c 3 _ rfl
      go_wp2_with fail
      rw [← hmC]
      generalize w3.alloc (.cells #[.bool false, .int .u32 (x.id : Int), .bool false, .string d] 29) = wF at HXF HRF y0 y1 y2 y3 y4 y5 y6 y7 y8 y9 y10 z0 z1 z2 z3 ⊢
      generalize w3.heap.size = pf at HRF z0 z1 z2 z3 ⊢
      have hxm : x ∈ m.messages := List.mem_of_getElem? hx
      obtain ⟨k', y, hfk, hkk, hy, hyx⟩ := find_self hx
      have hc := HFi.out wF false x HXF.out hxm
      rw [hfk] at hc
      refine hc.mono ?_
      rintro e w4 ⟨rfl, hb4⟩
      clear hc hfk y0 y1 y2 y3 y4 y5 y6 y7 y8 y9 y10 z0 z1 z2 z3
      have HRF4 : Hid (RowT 29 w4 pf #[.bool false, .int .u32 (x.id : Int), .bool false, .string d]) := HRF.out.on hb4
      have HXG : Hid (Bx W (w4.alloc (.cells #[.bool false, .int .u32 (x.id : Int), .bool true, .string d] 29)) W.heap.size m a) := (HXF.out.on hb4).on ((Below.refl _ _).alloc (Nat.le_refl _) _)
      have HRG : Hid (RowT 29 (w4.alloc (.cells #[.bool false, .int .u32 (x.id : Int), .bool true, .string d] 29)) w4.heap.size #[.bool false, .int .u32 (x.id : Int), .bool true, .string d]) := RowT.new _ _ _
      clear hb4 HXF HRF
      have z0 : w4.cell? ⟨pf, 0, none⟩ = some (.bool false) := HRF4.out.c 0 _ rfl
      have z1 : w4.cell? ⟨pf, 1, none⟩ = some (.int .u32 (x.id : Int)) := HRF4.out.c 1 _ rfl
      have z2 : w4.cell? ⟨pf, 2, none⟩ = some (.bool false) := HRF4.out.c 2 _ rfl
      have z3 : w4.cell? ⟨pf, 3, none⟩ = some (.string d) := HRF4.out.c 3 _ rfl
      go_wp2_with fail
      generalize w4.alloc (.cells #[.bool false, .int .u32 (x.id : Int), .bool true, .string d] 29) = wG at HXG HRG ⊢
      generalize w4.heap.size = pg at HRG ⊢
      clear z0 z1 z2 z3 HRF4
      obtain ⟨g0, o0, hs0, _⟩ := HXG.out.mem.message hx
      have HCm : Hid (∀ w', Below wG.heap.size wG w' → (w'.cell? ⟨W.heap.size, 0, none⟩ = some (.int .i64 m.level) ∧ w'.cell? ⟨W.heap.size, 1, none⟩ = some (.int .i64 m.nodes) ∧ w'.cell? ⟨W.heap.size, 2, none⟩ = some (.int .i64 m.cycles) ∧ w'.cell? ⟨W.heap.size, 3, none⟩ = some (.int .i64 m.length) ∧ w'.cell? ⟨W.heap.size, 4, none⟩ = some (.int .i64 m.enable) ∧ w'.cell? ⟨W.heap.size, 5, none⟩ = some (.int .i64 m.unit) ∧ w'.cell? ⟨W.heap.size, 6, none⟩ = some (.int .i64 m.init) ∧ w'.cell? ⟨W.heap.size, 7, none⟩ = some (.int .u32 (m.ref : Int)) ∧ w'.cell? ⟨W.heap.size, 8, none⟩ = some (.slice a.s1 m.masters.length a.c1) ∧ w'.cell? ⟨W.heap.size, 9, none⟩ = some (.slice (some ⟨g0, o0, none⟩) n a.c2) ∧ w'.cell? ⟨W.heap.size, 10, none⟩ = some (.slice a.s3 m.windows.length a.c3))) := fun w' hb => by
        have := HY.out _ (HXG.out.row.on hb)
        rw [HN.out, hs0] at this
        exact this
      have HCg : Hid (∀ w', Below wG.heap.size wG w' → (w'.cell? ⟨pg, 0, none⟩ = some (.bool false) ∧ w'.cell? ⟨pg, 1, none⟩ = some (.int .u32 (x.id : Int)) ∧ w'.cell? ⟨pg, 2, none⟩ = some (.bool true) ∧ w'.cell? ⟨pg, 3, none⟩ = some (.string d))) := fun w' hb => ⟨(HRG.out.on hb).c 0 _ rfl, (HRG.out.on hb).c 1 _ rfl, (HRG.out.on hb).c 2 _ rfl, (HRG.out.on hb).c 3 _ rfl⟩
      have HCx : Hid (∀ w', Below wG.heap.size wG w' → ∀ (j : Nat) (z : Mx.Msg), m.messages[j]? = some z → w'.cell? ⟨g0, o0 + j * 3, none⟩ = some (.int .u32 (z.id : Int))) := fun w' hb j z hz => by
        obtain ⟨g', o', hs', _, hc, _⟩ := (HXG.out.on hb).mem.message hz
        rw [hs0] at hs'
        injection hs' with hs'
        injection hs' with e1 e2
        subst e1 e2
        exact hc
      have HC1 : Hid (∀ w', Below wG.heap.size wG w' → w'.cell? ⟨g0, o0 + k * 3, none⟩ = some (.int .u32 (x.id : Int))) := fun w' hb => HCx.out w' hb k x hx
      have HC2 : Hid (∀ w', Below wG.heap.size wG w' → w'.cell? ⟨g0, o0 + k' * 3, none⟩ = some (.int .u32 (x.id : Int))) := fun w' hb => by have := HCx.out w' hb k' y hy; rwa [hyx] at this
      have HFg : Hid (∀ w', Below wG.heap.size wG w' → Calls Tryd.prog 17 #[.agg #[.int .i64 m.level, .int .i64 m.nodes, .int .i64 m.cycles, .int .i64 m.length, .int .i64 m.enable, .int .i64 m.unit, .int .i64 m.init, .int .u32 (m.ref : Int), .slice a.s1 m.masters.length a.c1, .slice (some ⟨g0, o0, none⟩) n a.c2, .slice a.s3 m.windows.length a.c3], .agg #[.bool false, .int .u32 (x.id : Int), .bool true, .string d]] w' fun e w'' => e = .returned (.int .i64 (-1)) ∧ Below w'.heap.size w' w'') := fun w' hb => by
        have := HFi.out w' true x (HXG.out.on hb) hxm
        rw [find_rtr, hmC, hs0] at this
        exact this
      have kn : (k' : Int) < (n : Int) := by omega
      have kk : ¬ ((k : Int) < (k' : Int)) := by omega
      have k0 : ¬ ((k' : Int) < 0) := by omega
      clear hs0 hx hy hyx hmC HRG HCx
      refine Lw.wp_region_quiet_below (by kernel_rfl) (by kernel_rfl) ?_
      repeat (first
        | go_big_quiet_skip
        | (go_big_quiet_want; go_big_quiet_op; go_big_quiet_on)
        | (go_big_quiet_want; go_big_quiet_op; apply Exists.intro; refine ⟨fun _ hb' => ?_, ?_⟩; (first
          | exact Lw.val_rfl _
          | (go_at_call 17; exact Lw.calls_below hb' (HFg.out _ hb'))
          | (simp [go_sem, (HCm.out _ hb').1, (HCm.out _ hb').2.1, (HCm.out _ hb').2.2.1, (HCm.out _ hb').2.2.2.1, (HCm.out _ hb').2.2.2.2.1, (HCm.out _ hb').2.2.2.2.2.1, (HCm.out _ hb').2.2.2.2.2.2.1, (HCm.out _ hb').2.2.2.2.2.2.2.1, (HCm.out _ hb').2.2.2.2.2.2.2.2.1, (HCm.out _ hb').2.2.2.2.2.2.2.2.2.1, (HCm.out _ hb').2.2.2.2.2.2.2.2.2.2]; rfl)
          | (simp [go_sem, (HCg.out _ hb').1, (HCg.out _ hb').2.1, (HCg.out _ hb').2.2.1, (HCg.out _ hb').2.2.2]; rfl)
          | (simp [go_sem, HC1.out _ hb']; rfl)
          | (simp [go_sem, HC2.out _ hb']; rfl)); go_big_quiet_on))
      refine wpQuiet_nil ?_
      intro w9 hb9
      have HX9 : Hid (Bx W w9 W.heap.size m a) := HXG.out.on hb9
      clear hb9 HCm HCg HC1 HC2 HFg HXG
      go_wp2
      go_roundw
      case rel => exact ⟨k + 1, by omega, rfl, HX9⟩
      case measure => simp only [intOf]; omega
    · have hkl : k = n := by omega
      subst hkl
      go_wp2_with fail
      rw [← hmC]
      refine (HFn.out _ HX.out).mono ?_
      rintro e w3 ⟨rfl, hb3⟩
      have HX3 : Hid (Bx W w3 W.heap.size m a) := HX.out.on hb3
      clear hb3
      go_wp2
      go_ret
      exact ⟨rfl, HX3.out.below.alloc HX3.out.below.size _⟩
end Go.Proofs.YthknkolnalobjaaDoor.matrixFrames
