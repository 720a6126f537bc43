/- What Parse of package frame answers, over the program's own text. -/
import Derived.Test.YtaphdehhnnglgaaDoorGr
import Derived.Test.YtaphdehhnnglgaaDoorMc
namespace Go.Proofs.YtaphdehhnnglgaaDoor
open Go.RowKit
theorem rd_ok (bs : List Bool) : ∀ n k p h, h.ok → p ≤ bs.length → (Fm.rd bs n k p h).1.ok ∧ (Fm.rd bs n k p h).2.1 ≤ bs.length ∧ (Fm.rd bs n k p h).2.2 ≤ 12 := by
  intro n
  induction n with
  | zero => intro k p h ok hp; exact ⟨ok, hp, Nat.zero_le _⟩
  | succ n ih =>
    intro k p h ok hp
    rw [Fm.rd_go bs n k p h _ _ rfl rfl]
    by_cases c : bs.length < p + Fm.wd h.ext k
    · rw [if_pos c]; exact ⟨Fm.zero_ok, Nat.zero_le _, by decide⟩
    · rw [if_neg c]
      split
      · exact ⟨Fm.zero_ok, Nat.zero_le _, by decide⟩
      · exact ih _ _ _ (Fm.at_set_lt _ _ _ ok (Bm.num_lt _)) (by omega)
def pfv (p : (Bool × Nat × Bool × List UInt8) × Nat × Nat) : Value := .tuple #[.agg #[.bool p.1.1, .int .u32 p.1.2.1, .bool p.1.2.2.1, .string ⟨p.1.2.2.2.toArray⟩], .int .i64 p.2.1, .int .i64 p.2.2]
theorem bytes_cutc (s : ByteArray) (i l : Nat) (hj : i + l ≤ s.size) (hs : s.size ≤ 1048576) (w : World) :
    Calls Tryd.prog 66 #[.string (s.extract i (i + l))] w fun e w' => e = .returned (.string ⟨(Bm.bytes (Fm.cut (Bm.read s.data.toList) i l)).toArray⟩) ∧ Below w.heap.size w w' := by
  have h := bytes_any (s.extract i (i + l)) w (by simp; omega)
  rw [Fm.read_extract, Nat.add_sub_cancel_left] at h
  exact h
theorem bytes_le (h : Fm.Hd) : h.bytes ≤ 8 := by unfold Fm.Hd.bytes; split; exact Nat.zero_le _; exact Nat.min_le_right _ _
set_option maxRecDepth 100000 in
set_option maxHeartbeats 4000000 in
theorem fParse_any (s : ByteArray) (w : World) (hT : Tab w) (hs : s.size ≤ 1048576) :
    Calls Tryd.prog 50 #[.string s] w fun e w' => e = .returned (pfv (Fm.parse (Bm.read s.data.toList))) ∧ Below w.heap.size w w' := by
  have hlen : (Bm.read s.data.toList).length = s.size := by rw [Bm.length_read]; simp
  have HH : Hid (∀ w, Tab w → Calls Tryd.prog 63 #[.string s] w fun e w' => e = .returned (hdv (Fm.rd (Bm.read s.data.toList) 8 0 0 Fm.Hd.zero)) ∧ Below w.heap.size w w') := fun w hT => readHead_any s w hT hs
  have HB : Hid (∀ i l w, i + l ≤ s.size → Calls Tryd.prog 66 #[.string (s.extract i (i + l))] w fun e w' => e = .returned (.string ⟨(Bm.bytes (Fm.cut (Bm.read s.data.toList) i l)).toArray⟩) ∧ Below w.heap.size w w') := fun i l w h => bytes_cutc s i l h hs w
  have HP : Hid (Fm.parse (Bm.read s.data.toList) = Fm.tellH (Bm.read s.data.toList) (Fm.rd (Bm.read s.data.toList) 8 0 0 Fm.Hd.zero)) := (Fm.parseH_eq _).symm
  obtain ⟨ok, hp, he⟩ := rd_ok (Bm.read s.data.toList) 8 0 0 Fm.Hd.zero Fm.zero_ok (Nat.zero_le _)
  have hT1 : Hid (Tab _) := hT.alloc (.cells #[.bool false, .int .u32 0, .bool false, .string ⟨#[]⟩] 24)
  generalize Fm.parse (Bm.read s.data.toList) = res at *
  generalize Fm.rd (Bm.read s.data.toList) 8 0 0 Fm.Hd.zero = R at *
  obtain ⟨h, p, e0⟩ := R
  simp only at ok hp he
  unfold hdv at HH
  simp only at HH
  rw [hlen] at hp
  clear hT
  go_enter Tryd.func50, Tryd.ntmps50
  go_wp2_with fail
  refine (HH.out _ hT1.out).mono ?_
  rintro e w1 ⟨rfl, hb1⟩
  have HV1 : Hid (w1.heap[w.heap.size]? = some (.cells #[.bool false, .int .u32 0, .bool false, .string ⟨#[]⟩] 24 (0, 0))) := (hb1.block w.heap.size (by simp)).trans (heap_alloc_new _ _)
  have hz1 : w.heap.size < w1.heap.size := (Array.getElem?_eq_some_iff.1 HV1.out).1
  have hT2 : Hid (Tab w1) := hT1.out.below hb1
  have hb2 := below_join ((Below.refl _ _).alloc (Nat.le_refl _) _) hb1
  clear hb1 hT1 HH
  unfold hcs
  obtain ⟨x0, x1, x2, x3, z0, z1, z2, z3⟩ := four_cells HV1.out
  by_cases c0 : e0 = 0
  · subst c0
    have HP2 : Hid (res = if s.size < p + 8 * h.bytes then Fm.none_ 10 else ((h.ext, h.id, h.rtr, Bm.bytes (Fm.cut (Bm.read s.data.toList) p (8 * h.bytes))), p + 8 * h.bytes, 0)) := by
      show _ = _
      rw [HP.out]
      unfold Fm.tellH
      simp only
      rw [if_neg (by decide), hlen]
    have hby := bytes_le h
    have HY : Hid (∀ w, Calls Tryd.prog 64 #[.agg (hcs h)] w fun e w' => e = .returned (.int .i64 h.bytes) ∧ Below w.heap.size w w') := fun w => bytesOf_any h w
    have HFr : Hid (∀ w, Tab w → Calls Tryd.prog 65 #[.agg (hcs h)] w fun e w' => e = .returned (.agg #[.bool h.ext, .int .u32 h.id, .bool h.rtr, .string ⟨#[]⟩]) ∧ Below w.heap.size w w') := fun w hT => frameOf_any h w hT ok
    have HBk : Hid (p + 8 * h.bytes ≤ s.size → ∀ w, Calls Tryd.prog 66 #[.string (s.extract p (p + 8 * h.bytes))] w fun e w' => e = .returned (.string ⟨(Bm.bytes (Fm.cut (Bm.read s.data.toList) p (8 * h.bytes))).toArray⟩) ∧ Below w.heap.size w w') := fun hh w => HB.out p (8 * h.bytes) w hh
    clear HP HB ok he
    generalize h.bytes = nb at *
    generalize h.ext = xx at *
    generalize h.id = ii at *
    generalize h.rtr = rr at *
    go_wp2_with fail
    refine (HY.out _).mono ?_
    rintro e w3 ⟨rfl, hb3⟩
    have HV3 : Hid (_) := block_on (by simp; omega) hb3 ((Below.heap_alloc w1 _ _ hz1).trans HV1.out)
    have HG3 : Hid (w3.heap[w1.heap.size]? = some (.cells (hcs h) 66 (0, 0))) := block_on (by simp) hb3 (heap_alloc_new _ _)
    have hT3 : Hid (Tab w3) := (hT2.out.alloc _).below hb3
    have hb4 : Below w.heap.size w w3 := below_join (hb2.alloc hb2.size _) hb3
    have hz3 : w1.heap.size < w3.heap.size := (Array.getElem?_eq_some_iff.1 HG3.out).1
    clear hb3 HV1 hT2 hb2 x0 x1 x2 x3 z0 z1 z2 z3 HY
    obtain ⟨c0, c1, c2, c3, c4, c5, c6, c7⟩ := hd_cells HG3.out
    obtain ⟨x0, x1, x2, x3, z0, z1, z2, z3⟩ := four_cells HV3.out
    by_cases c : s.size < p + 8 * nb
    · have HE : Hid (_) := HP2.out.trans (if_pos c)
      clear HP2 HBk HFr
      go_wp2
      exact bodyPost_ret (v := pfv (Fm.none_ 10)) (by simp [results, Tryd.results50, go_sem, pfv, Fm.none_, x0, x1, x2, x3]) rfl ⟨by rw [HE.out], (((hb4.setCell (Nat.le_refl _) _).setCell (Nat.le_refl _) _).setCell (Nat.le_refl _) _).setCell (Nat.le_refl _) _⟩
    · have HE : Hid (_) := HP2.out.trans (if_neg c)
      have HBb : Hid (_) := HBk.out (by omega)
      generalize Bm.bytes (Fm.cut (Bm.read s.data.toList) p (8 * nb)) = dd at *
      clear HP2 HBk
      go_wp2_with fail
      refine (HFr.out _ hT3.out).mono ?_
      rintro e w5 ⟨rfl, hb5⟩
      have HV5 : Hid (_) := block_on (by omega) hb5 HV3.out
      have hb6 := below_join hb4 hb5
      have hz5 : w.heap.size < w5.heap.size := (Array.getElem?_eq_some_iff.1 HV5.out).1
      clear hb5 hb4 HV3 HG3 hT3 HFr c0 c1 c2 c3 c4 c5 c6 c7 x0 x1 x2 x3 z0 z1 z2 z3
      go_wp2_with fail
      refine (HBb.out _).mono ?_
      rintro e w7 ⟨rfl, hb7⟩
      have HV7 : Hid (_) := block_on (by simp; omega) hb7 ((Below.heap_alloc w5 _ _ hz5).trans HV5.out)
      have HG7 : Hid (w7.heap[w5.heap.size]? = some (.cells #[.bool xx, .int .u32 ii, .bool rr, .string ⟨#[]⟩] 24 (0, 0))) := block_on (by simp) hb7 (heap_alloc_new _ _)
      have hb8 : Below w.heap.size w w7 := below_join (hb6.alloc hb6.size _) hb7
      have hne : w5.heap.size ≠ w.heap.size := by omega
      clear hb7 hb6 HV5
      obtain ⟨x0, x1, x2, x3, z0, z1, z2, z3⟩ := four_cells HV7.out
      obtain ⟨y0, y1, y2, y3, v0, v1, v2, v3⟩ := four_cells HG7.out
      go_wp2
      exact bodyPost_ret (v := pfv ((xx, ii, rr, dd), p + 8 * nb, 0)) (by simp [results, Tryd.results50, go_sem, pfv, x0, x1, x2, x3]) rfl ⟨by rw [HE.out], ((((hb8.setCell (Nat.le_of_lt hz5) _).setCell (Nat.le_refl _) _).setCell (Nat.le_refl _) _).setCell (Nat.le_refl _) _).setCell (Nat.le_refl _) _⟩
  · have HP2 : Hid (res = Fm.none_ e0) := by
      show _ = _
      rw [HP.out]
      unfold Fm.tellH
      simp only
      rw [if_pos c0]
    have hne : (e0 : Int) ≠ 0 := by omega
    clear HP HB ok
    go_wp2
    exact bodyPost_ret (v := pfv (Fm.none_ e0)) (by simp [results, Tryd.results50, go_sem, pfv, Fm.none_, x0, x1, x2, x3, hz1]) rfl ⟨by rw [HP2.out], ((((hb2.setCell (Nat.le_refl _) _).setCell (Nat.le_refl _) _).setCell (Nat.le_refl _) _).setCell (Nat.le_refl _) _).alloc (by simp; omega) _⟩
end Go.Proofs.YtaphdehhnnglgaaDoor
