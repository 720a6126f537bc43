/- ObjectComes: of every slice of at most thirty bytes and slice of texts (others are let by): what came last is read, of each message by itself; what was sent isn't what came; no condition. -/
import Derived.Test.YtkgeknkppnadfaaW18
import Derived.Test.YtkgeknkppnadfaaJn
import Derived.ProofKit
import Derived.OpenShut
import Derived.Deep.CutBlock
namespace Go.Proofs.Ytkgeknkppnadfaa.objectComes
open Go.ChangeShapes Go.WideShapes Go.ChangeAt Go.RowKit
set_option linter.unusedVariables false
variable {Q : World → Prop} {At : World → Ob.A Q18.St}
set_option maxRecDepth 100000 in
set_option maxHeartbeats 8000000 in
theorem walkA (hQ : ∀ w w', Q w → Below w.heap.size w w' → Q w') (S : ObjectSpec Q At) (W : World) (hW : Q W) (s0 : Option Addr) (len0 cap0 : Nat) (B : Nat → Nat) (hin0 : IsU19 W s0 len0 B) (s1 : Option Addr) (len1 cap1 : Nat) (D : Nat → ByteArray) (hin1 : IsStrs W s1 len1 cap1 D) : Calls Try.prog 6 #[.slice s0 len0 cap0, .slice s1 len1 cap1] W fun e w' => e = .returned (.bool true) ∧ Below W.heap.size W w' := by
  go_enter Try.func6, Try.ntmps6
  go_wp2_with fail
  refine (known18_any hQ S W hW).mono ?_
  rintro e w1 ⟨rfl, hb⟩
  have HB : Hid (Below W.heap.size W w1) := hb
  clear hb
  by_cases h30 : 30 < len0
  · have h30i : (30 : Int) < (len0 : Int) := by omega
    have d30 : decide ((30 : Int) < (len0 : Int)) = true := decide_eq_true h30i
    clear hin0 hin1
    go_wp2
    go_ret
    exact ⟨rfl, HB.out⟩
  have h30i : ¬ ((30 : Int) < (len0 : Int)) := by omega
  have d30 : decide ((30 : Int) < (len0 : Int)) = false := decide_eq_false h30i
  by_cases hll : len1 < len0
  · have hlli : (len1 : Int) < (len0 : Int) := by omega
    have dll : decide ((len1 : Int) < (len0 : Int)) = true := decide_eq_true hlli
    clear hin0 hin1
    go_wp2
    go_ret
    exact ⟨rfl, HB.out⟩
  have hlli : ¬ ((len1 : Int) < (len0 : Int)) := by omega
  have dll : decide ((len1 : Int) < (len0 : Int)) = false := decide_eq_false hlli
  have HN : Hid (len0 ≤ 30 ∧ len0 ≤ len1) := ⟨by omega, by omega⟩
  have HEl : Hid (∀ i, i < len0 → ∃ b off, s0 = some ⟨b, off, none⟩ ∧ (∀ w', Below W.heap.size W w' → w'.cell? ⟨b, off + i, none⟩ = some (.int .u8 (B i : Int))) ∧ B i < 256) := fun i hi => by
    obtain ⟨b, off, hs, hc, hB⟩ := hin0 i hi
    exact ⟨b, off, hs, fun w' hbl => (hbl.cell (p := ⟨b, off + i, none⟩) (block_lt_of_cell hc)).trans hc, hB⟩
  have HEd : Hid (∀ i, i < len1 → ∃ b off, s1 = some ⟨b, off, none⟩ ∧ b < W.heap.size ∧ ∀ w', Below W.heap.size W w' → w'.cell? ⟨b, off + i, none⟩ = some (.string (D i))) := fun i hi => by
    rcases hin1 with ⟨_, h0, _⟩ | ⟨q, rfl, hle, _, hc⟩
    · omega
    · obtain ⟨qb, qo, qs⟩ := q
      have h1 := (hc i (by omega)).1
      obtain rfl : qs = none := by
        have := (hc 0 (by omega)).1
        simpa [Addr.add] using World.cell?_spot this
      rw [Go.WideShapes.add_plain] at h1
      exact ⟨qb, qo, rfl, block_lt_of_cell h1, fun w' hbl => (hbl.cell (p := ⟨qb, qo + i, none⟩) (block_lt_of_cell h1)).trans h1⟩
  clear hin0 hin1 h30 hll
  go_wp2_with fail
  refine (least18_any w1).mono ?_
  rintro e V ⟨a, rfl, hm, hb0⟩
  have HB0 : Hid (Below W.heap.size W V) := HB.out.trans (hb0.mono HB.out.size)
  have HQ : Hid (∀ w, Below V.heap.size V w → Q w) := fun w hb => hQ _ w (hQ W V hW (HB.out.trans (hb0.mono HB.out.size))) hb
  have HM : Hid (MIn V Mx.l18 a) := hm
  clear hm hb0 hQ hW HB
  go_wp2_with fail
  refine (Oq.O1.makeV (S.new V V Mx.l18 a 0 (HQ.out V (Below.refl _ _)) (Below.refl _ _) HM.out ⟨by decide, by decide, by decide⟩ (by decide))).mono ?_
  clear HM
  rintro e w2 ⟨V, p, rfl, hV1, hq⟩
  replace HB0 : Hid (Below W.heap.size W V) := HB0.out.trans (hV1.mono HB0.out.size)
  replace HQ : Hid (∀ w, Below V.heap.size V w → Q w) := fun w hb => HQ.out w (hV1.trans (hb.mono hV1.size))
  clear hV1
  have HO : Hid (Oq.O1 (At V) V w2 p Q18.k0 []) := hq
  clear hq
  have HG0 : Hid (V.heap.size ≤ w2.heap.size) := HO.out.bel.size
  have h1 := HO.out.al (S.is V) (.cells (oS [none, none, none]) 64)
  have h2 := h1.al (S.is V) (.cells (oB [none, none, none]) 65)
  have hsz : (w2.alloc (.cells (oS [none, none, none]) 64)).heap.size = w2.heap.size + 1 := by simp
  rw [hsz] at h2
  have HT : Hid (Oq.O1 (At V) V ((w2.alloc (.cells (oS [none, none, none]) 64)).alloc (.cells (oB [none, none, none]) 65)) p Q18.k0 [(w2.heap.size + 1, .cells (oB [none, none, none]) 65), (w2.heap.size, .cells (oS [none, none, none]) 64)]) := h2
  have eS : oS [none, none, none] = #[.string ⟨#[]⟩, .string ⟨#[]⟩, .string ⟨#[]⟩] := rfl
  have eB : oB [none, none, none] = #[.bool false, .bool false, .bool false] := rfl
  rw [eS, eB] at HT
  clear h1 h2 hsz HO eS eB
  go_upto_region 8 with fail
  generalize (w2.alloc (.cells #[.string ⟨#[]⟩, .string ⟨#[]⟩, .string ⟨#[]⟩] 64)).alloc (.cells #[.bool false, .bool false, .bool false] 65) = v2 at HT ⊢
  have HGe : Hid (∃ gl gh, gl = w2.heap.size ∧ gh = w2.heap.size + 1) := ⟨_, _, rfl, rfl⟩
  obtain ⟨gl, hgl⟩ : ∃ gl, w2.heap.size = gl := ⟨_, rfl⟩
  rw [hgl] at HT ⊢
  obtain ⟨gh, hgh⟩ : ∃ gh, gl + 1 = gh := ⟨_, rfl⟩
  rw [hgh] at HT ⊢
  have HGg : Hid (V.heap.size ≤ gl ∧ V.heap.size ≤ gh ∧ gl ≠ gh) := ⟨by have := HG0.out; omega, by have := HG0.out; omega, by omega⟩
  have HTs : Hid (∃ s : Q18.St, s.came.length = 3 ∧ Oq.O1 (At V) V v2 p s [(gl, .cells (oS s.came) 64), (gh, .cells (oB s.came) 65)]) := ⟨Q18.k0, rfl, HT.out.less (fun x hx => (List.mem_cons.1 hx).elim (fun e => e ▸ List.mem_cons_of_mem _ List.mem_cons_self) (fun hx => (List.mem_singleton.1 hx) ▸ List.mem_cons_self))⟩
  clear HT HGe hgl hgh HG0 d30 dll hlli h30i
  go_wp2_with fail
  go_loopw [8, 9] (fun vi _v9 wr => ∃ i : Nat, i ≤ len0 ∧ vi = .int .i64 (i : Int) ∧ Hid (∃ s : Q18.St, s.came.length = 3 ∧ Oq.O1 (At V) V wr p s [(gl, .cells (oS s.came) 64), (gh, .cells (oB s.came) 65)])) (fun vi _ _ => len0 - (intOf vi).toNat)
  case atStart => exact ⟨0, Nat.zero_le _, rfl, HTs⟩
  case round =>
    clear HTs
    obtain ⟨i, hi, rfl, HTs⟩ := hrel
    by_cases hil : i < len0
    · obtain ⟨b, off, rfl, hc, hB⟩ := HEl.out i hil
      obtain ⟨bd, od, rfl, hbd, hcd⟩ := HEd.out i (by have := HN.out; omega)
      have ii : (i : Int) < (len0 : Int) := by omega
      have ij : (i : Int) < (len1 : Int) := by have := HN.out; omega
      have ib : (i : Int) < 1000 := by have := HN.out; omega
      obtain ⟨s, hl3, ho⟩ := HTs.out
      have HL3 : Hid (s.came.length = 3) := hl3
      have HO : Hid (Oq.O1 (At V) V wr p s [(gl, .cells (oS s.came) 64), (gh, .cells (oB s.came) 65)]) := ho
      have HCe : Hid (∀ w', Below V.heap.size V w' → w'.cell? ⟨b, off + i, none⟩ = some (.int .u8 (B i : Int))) := fun w' hb => hc w' (HB0.out.trans (hb.mono HB0.out.size))
      have HCd : Hid (∀ w', Below V.heap.size V w' → w'.cell? ⟨bd, od + i, none⟩ = some (.string (D i))) := fun w' hb => hcd w' (HB0.out.trans (hb.mono HB0.out.size))
      have HBd : Hid (bd < V.heap.size) := Nat.lt_of_lt_of_le hbd HB0.out.size
      have c0 := HCe.out wr ho.bel
      have c1 := HCd.out wr ho.bel
      clear hc hcd ho hl3 HTs hbd
      generalize D i = E at HCd c1
      generalize B i = x at HCe hB c0
      obtain ⟨m, hm⟩ : ∃ m, x % 4 = m := ⟨_, rfl⟩
      have em : (x : Int) % 4 = (m : Int) := by omega
      have tm : (x : Int).tmod 4 = (m : Int) := by rw [Int.tmod_eq_emod_of_nonneg (by omega)]; exact em
      have m4 : m < 4 := by omega
      have HMw : Hid ((Lit.int .i64 (m : Int)).wf = true ∧ m < 4) := ⟨wf18 (by omega), m4⟩
      have xb : (x : Int) ≤ 255 := by omega
      clear hm m4
      by_cases h40 : 40 < E.size
      · have h40i : (40 : Int) < (E.size : Int) := by omega
        have HBz : Hid (Below W.heap.size W wr) := HB0.out.trans (HO.out.bel.mono HB0.out.size)
        clear HO HCe HCd
        go_wp2
        go_ret
        exact ⟨rfl, HBz.out⟩
      have h40i : ¬ ((40 : Int) < (E.size : Int)) := by omega
      clear h40
      go_wp2_with fail
      refine (HO.out.turn (fun F hF => S.got V _ p F _ (m : Int) E (HQ.out _ HO.out.bel) HO.out.bel HMw.out.1 hF)).mono ?_
      rintro e w3 ⟨rfl, hq⟩
      have HO3 : Hid (Oq.O1 (At V) V w3 p (Q18.gotS s (m : Int) E) [(gl, .cells (oS s.came) 64), (gh, .cells (oB s.came) 65)]) := hq
      clear hq HO c0 c1
      go_wp2_with fail
      refine (HO3.out.turn (fun F hF => S.send V _ p F _ 0 ⟨#[111, 119, 110]⟩ (HQ.out _ HO3.out.bel) HO3.out.bel (by decide) hF)).mono ?_
      rintro e w4 ⟨rfl, hq⟩
      have HO4 : Hid (Oq.O1 (At V) V w4 p (Q18.sendS (Q18.gotS s (m : Int) E) 0 ⟨#[111, 119, 110]⟩) [(gl, .cells (oS s.came) 64), (gh, .cells (oB s.came) 65)]) := hq
      have HCa : Hid ((Q18.sendS (Q18.gotS s (m : Int) E) 0 ⟨#[111, 119, 110]⟩).came = Q18.put s.came (m : Int) E) := Q18.came_send _ _ _
      clear hq HO3
      generalize Q18.sendS (Q18.gotS s (m : Int) E) 0 ⟨#[111, 119, 110]⟩ = s5 at HO4 HCa ⊢
      generalize Q18.sendE (Q18.gotS s (m : Int) E) 0 ⟨#[111, 119, 110]⟩ = err
      by_cases h3 : m < 3
      · have h3i : (m : Int) < 3 := by omega
        have h3d : decide ((m : Int) < 3) = true := decide_eq_true h3i
        go_upto_region 17 with fail
        have ho5 := HO4.out
        obtain ⟨o, hoo⟩ : ∃ o, s.came[m]? = some o := ⟨_, List.getElem?_eq_getElem (by rw [HL3.out]; exact h3)⟩
        have rl := ho5.rows _ (List.mem_cons_self)
        have rh := ho5.rows _ (List.mem_cons_of_mem _ List.mem_cons_self)
        dsimp only at rl rh
        have q1 : w4.cell? ⟨gl, m, none⟩ = some (.string (o.getD ByteArray.empty)) := Oq.row_cell (k := m) rl (oS_at hoo)
        have f1 : w4.frozen? ⟨gl, m, none⟩ = false := RowT.f (T := 64) rl m
        have ho6 : Oq.O1 (At V) V (w4.setCell ⟨gl, m, none⟩ (.string E)) p s5 [(gl, .cells ((oS s.came).setIfInBounds m (.string E)) 64), (gh, .cells (oB s.came) 65)] := ho5.store (S.is V) List.mem_cons_self HGg.out.1 (fun x hx => by
          rcases List.mem_cons.1 hx with rfl | hx
          · exact Or.inl rfl
          · rw [List.mem_singleton.1 hx]; exact Or.inr ⟨List.mem_cons_of_mem _ List.mem_cons_self, fun e => HGg.out.2.2 e.symm⟩)
        have rh6 := ho6.rows _ (List.mem_cons_of_mem _ List.mem_cons_self)
        dsimp only at rh6
        have q2 : (w4.setCell ⟨gl, m, none⟩ (.string E)).cell? ⟨gh, m, none⟩ = some (.bool o.isSome) := Oq.row_cell (k := m) rh6 (oB_at hoo)
        have f2 : (w4.setCell ⟨gl, m, none⟩ (.string E)).frozen? ⟨gh, m, none⟩ = false := RowT.f (T := 65) rh6 m
        have HO7 : Hid (Oq.O1 (At V) V ((w4.setCell ⟨gl, m, none⟩ (.string E)).setCell ⟨gh, m, none⟩ (.bool true)) p s5 [(gl, .cells (oS s5.came) 64), (gh, .cells (oB s5.came) 65)]) := by
          have h := ho6.store (S.is V) (k := m) (v := .bool true) (R' := [(gl, .cells ((oS s.came).setIfInBounds m (.string E)) 64), (gh, .cells ((oB s.came).setIfInBounds m (.bool true)) 65)]) (List.mem_cons_of_mem _ List.mem_cons_self) HGg.out.2.1 (fun x hx => by
            rcases List.mem_cons.1 hx with rfl | hx
            · exact Or.inr ⟨List.mem_cons_self, HGg.out.2.2⟩
            · rw [List.mem_singleton.1 hx]; exact Or.inl rfl)
          rw [oS_set, oB_set s.came m E] at h
          have e : s5.came = s.came.set m (some E) := by rw [HCa.out]; exact Q18.put_nat (by rw [HL3.out]; exact h3) E
          rw [e]
          exact h
        have HL5 : Hid (s5.came.length = 3) := by show _ = _; rw [HCa.out, Q18.len_put]; exact HL3.out
        have s0' : w4.cell? ⟨bd, od + i, none⟩ = some (.string E) := HCd.out _ ho5.bel
        have s1' : (w4.setCell ⟨gl, m, none⟩ (.string E)).cell? ⟨bd, od + i, none⟩ = some (.string E) := HCd.out _ ho6.bel
        have s2' : ((w4.setCell ⟨gl, m, none⟩ (.string E)).setCell ⟨gh, m, none⟩ (.bool true)).cell? ⟨bd, od + i, none⟩ = some (.string E) := HCd.out _ HO7.out.bel
        clear ho5 ho6 rl rh rh6 HO4 HL3 HCa hoo HCe HCd h3 h3d
        generalize w4 = vd at q1 f1 q2 f2 HO7 s0' s1' s2' ⊢
        go_wp2_with fail
        have HTn : Hid (∃ s : Q18.St, s.came.length = 3 ∧ Oq.O1 (At V) V ((vd.setCell ⟨gl, m, none⟩ (.string E)).setCell ⟨gh, m, none⟩ (.bool true)) p s [(gl, .cells (oS s.came) 64), (gh, .cells (oB s.came) 65)]) := ⟨s5, HL5.out, HO7.out⟩
        clear q1 f1 q2 f2 s0' s1' s2' HO7 HL5
        go_roundw
        case rel => exact ⟨i + 1, by omega, rfl, HTn⟩
        case measure => simp only [intOf]; omega
      · have h3i : ¬ ((m : Int) < 3) := by omega
        have h3d : decide ((m : Int) < 3) = false := decide_eq_false h3i
        have e : s5.came = s.came := by rw [HCa.out]; exact Q18.put_no (by rw [HL3.out]; omega) E
        have HTn : Hid (∃ s : Q18.St, s.came.length = 3 ∧ Oq.O1 (At V) V w4 p s [(gl, .cells (oS s.came) 64), (gh, .cells (oB s.came) 65)]) := ⟨s5, by rw [e]; exact HL3.out, by rw [e]; exact HO4.out⟩
        clear HO4 e HCa HL3 HCe HCd h3
        go_wp2_with fail
        go_roundw
        case rel => exact ⟨i + 1, by omega, rfl, HTn⟩
        case measure => simp only [intOf]; omega
    · obtain rfl : i = len0 := by omega
      have ii : ¬ ((i : Int) < (i : Int)) := by omega
      clear HEl HEd
      obtain ⟨s, hl3, ho⟩ := HTs.out
      have HL3 : Hid (s.came.length = 3) := hl3
      have HO : Hid (Oq.O1 (At V) V wr p s [(gl, .cells (oS s.came) 64), (gh, .cells (oB s.came) 65)]) := ho
      clear hl3 ho HTs
      go_wp2_with fail
      go_loopw [10, 11, 12] (fun vk _v11 _v12 wk => ∃ k : Nat, k ≤ 3 ∧ vk = .int .i64 (k : Int) ∧ Hid (Oq.O1 (At V) V wk p s [(gl, .cells (oS s.came) 64), (gh, .cells (oB s.came) 65)])) (fun vk _ _ _ => 3 - (intOf vk).toNat)
      case atStart => exact ⟨0, Nat.zero_le _, rfl, HO⟩
      case round =>
        clear HO
        obtain ⟨k, hk, rfl, HO⟩ := hrel
        by_cases hk3 : k < 3
        · have ki : (k : Int) < 3 := by omega
          have hkw : (Lit.int .i64 (k : Int)).wf = true := wf18 (by omega)
          obtain ⟨o, hoo⟩ : ∃ o, s.came[k]? = some o := ⟨_, List.getElem?_eq_getElem (by rw [HL3.out]; exact hk3)⟩
          have HGt : Hid (Q18.get s.came (k : Int) = o) := Q18.get_nat hoo
          have HRo : Hid ((oS s.came)[k]? = some (.string (o.getD ByteArray.empty)) ∧ (oB s.came)[k]? = some (.bool o.isSome)) := ⟨oS_at hoo, oB_at hoo⟩
          clear hoo
          go_wp2_with fail
          refine (HO.out.turn (fun F hF => S.read V _ p F _ (k : Int) (HQ.out _ HO.out.bel) HO.out.bel hkw hF)).mono ?_
          rintro e w6 ⟨rfl, hq⟩
          rw [HGt.out]
          replace HO : Hid (Oq.O1 (At V) V w6 p s [(gl, .cells (oS s.came) 64), (gh, .cells (oB s.came) 65)]) := hq
          have rl := hq.rows _ (List.mem_cons_self)
          have rh := hq.rows _ (List.mem_cons_of_mem _ List.mem_cons_self)
          have q1 := Oq.row_cell (k := k) rl HRo.out.1
          have q2 := Oq.row_cell (k := k) rh HRo.out.2
          clear hq rl rh HRo HGt hkw
          generalize o.getD ByteArray.empty = DD at q1 ⊢
          generalize o.isSome = bb at q2 ⊢
          go_wp2_with fail
          go_roundw
          case rel => exact ⟨k + 1, by omega, rfl, HO⟩
          case measure => simp only [intOf]; omega
        · obtain rfl : k = 3 := by omega
          have HGt : Hid (Q18.get s.came 3 = none) := Q18.get_no (by rw [HL3.out]; omega)
          go_wp2_with fail
          refine (HO.out.turn (fun F hF => S.read V _ p F _ 3 (HQ.out _ HO.out.bel) HO.out.bel (by decide) hF)).mono ?_
          rintro e w6 ⟨rfl, hq⟩
          rw [HGt.out]
          have HBz : Hid (Below W.heap.size W w6) := HB0.out.trans (hq.bel.mono HB0.out.size)
          clear hq HO HGt
          go_wp2
          go_ret
          exact ⟨rfl, HBz.out⟩
end Go.Proofs.Ytkgeknkppnadfaa.objectComes
