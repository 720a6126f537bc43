/- same, over its text: two lists of the same events. -/
import Derived.Test.YthappkhiiopfgaaGreatDoorNe
import Derived.Test.YthappkhiiopfgaaGreatDoorU2
namespace Go.Proofs.YthappkhiiopfgaaGreatDoor
open Go.RowKit
set_option linter.unusedVariables false
theorem evC_get (l : List Mm.Ev) (i : Nat) (v : Mm.Ev) (h : l[i]? = some v) (j : Nat) (hj : j < 6) : (evC l)[i * 6 + j]? = (evV v)[j]? := by
  induction l generalizing i with
  | nil => cases h
  | cons a l ih =>
    have hl : (evV a).length = 6 := rfl
    have e : evC (a :: l) = evV a ++ evC l := rfl
    rw [e]
    cases i with
    | zero =>
      have h' : a = v := by simpa using h
      subst h'
      rw [List.getElem?_append_left (by omega), Nat.zero_mul, Nat.zero_add]
    | succ i =>
      rw [List.getElem?_append_right (by omega), show (i + 1) * 6 + j - (evV a).length = i * 6 + j by omega]
      exact ih i (by simpa using h)
set_option maxRecDepth 100000 in
set_option maxHeartbeats 2000000 in
theorem same_any (B : Nat) (w : World) (s1 s2 : Option Addr) (cap1 cap2 : Nat) (l : List Mm.Ev) (h1 : EvAt B w s1 cap1 l) (h2 : EvAt B w s2 cap2 l) (hl : l.length ≤ 1000) :
    Calls Tryz.prog 13 #[.slice s1 l.length cap1, .slice s2 l.length cap2] w fun e w' => e = .returned (.bool true) ∧ Below w.heap.size w w' := by
  by_cases h0 : l = []
  · subst h0
    clear h1 h2 hl
    go_enter Tryz.func13, Tryz.ntmps13
    go_wp2
    go_loopw [5] (fun i wr => i = .int .i64 0 ∧ Hid (Below w.heap.size w wr)) (fun _ _ => 0)
    case atStart => exact ⟨rfl, Below.refl _ _⟩
    case round =>
      obtain ⟨rfl, hA⟩ := hrel
      go_wp2
      go_ret
      exact ⟨rfl, hA.out⟩
  · obtain ⟨g1, rfl, b1, t1, n1, m1, c1⟩ := h1.spot h0
    obtain ⟨g2, rfl, b2, t2, n2, m2, c2⟩ := h2.spot h0
    have HC : Hid (∀ k v, l[k]? = some v → ∀ w', Below w.heap.size w w' → (∀ j u, (evV v)[j]? = some u → w'.cell? ⟨g1, k * 6 + j, none⟩ = some u) ∧ (∀ j u, (evV v)[j]? = some u → w'.cell? ⟨g2, k * 6 + j, none⟩ = some u)) := fun k v hv w' hb => by
      refine ⟨fun j u hu => ?_, fun j u hu => ?_⟩
      · have hj : j < 6 := (List.getElem?_eq_some_iff.1 hu).1
        exact (hb.cell (p := ⟨g1, k * 6 + j, none⟩) t1).trans (c1 _ _ ((evC_get l k v hv j hj).trans hu))
      · have hj : j < 6 := (List.getElem?_eq_some_iff.1 hu).1
        exact (hb.cell (p := ⟨g2, k * 6 + j, none⟩) t2).trans (c2 _ _ ((evC_get l k v hv j hj).trans hu))
    have HG : Hid (∀ k, k < l.length → ∃ v, l[k]? = some v) := fun k hk => ⟨_, List.getElem?_eq_getElem hk⟩
    clear h1 h2 c1 c2 b1 b2
    generalize hL : l.length = L at *
    clear hL h0
    go_enter Tryz.func13, Tryz.ntmps13
    go_wp2
    go_loopw [5] (fun i wr => ∃ k : Nat, k ≤ L ∧ i = .int .i64 k ∧ Hid (Below w.heap.size w wr)) (fun i _ => L - (intOf i).toNat)
    case atStart => exact ⟨0, Nat.zero_le _, rfl, Below.refl _ _⟩
    case round =>
      obtain ⟨k, hk, rfl, hA⟩ := hrel
      by_cases hlt : k < L
      · obtain ⟨v, hv⟩ := HG.out k hlt
        obtain ⟨ek, ⟨ex, en, er, ed⟩, ee⟩ := v
        have HF : Hid (∀ w', Below wr.heap.size wr w' → w'.cell? ⟨g1, k * 6, none⟩ = some (.int .i64 (ek : Int)) ∧ w'.cell? ⟨g1, k * 6 + 1, none⟩ = some (.bool ex) ∧ w'.cell? ⟨g1, k * 6 + 2, none⟩ = some (.int .u32 (en : Int)) ∧ w'.cell? ⟨g1, k * 6 + 3, none⟩ = some (.bool er) ∧ w'.cell? ⟨g1, k * 6 + 4, none⟩ = some (.string ⟨ed.toArray⟩) ∧ w'.cell? ⟨g1, k * 6 + 5, none⟩ = some (.int .i64 (ee : Int))) := fun w' hb =>
          have h := (HC.out k _ hv w' (below_join hA.out hb)).1
          ⟨h 0 _ rfl, h 1 _ rfl, h 2 _ rfl, h 3 _ rfl, h 4 _ rfl, h 5 _ rfl⟩
        have HF2 : Hid (∀ w', Below wr.heap.size wr w' → w'.cell? ⟨g2, k * 6, none⟩ = some (.int .i64 (ek : Int)) ∧ w'.cell? ⟨g2, k * 6 + 1, none⟩ = some (.bool ex) ∧ w'.cell? ⟨g2, k * 6 + 2, none⟩ = some (.int .u32 (en : Int)) ∧ w'.cell? ⟨g2, k * 6 + 3, none⟩ = some (.bool er) ∧ w'.cell? ⟨g2, k * 6 + 4, none⟩ = some (.string ⟨ed.toArray⟩) ∧ w'.cell? ⟨g2, k * 6 + 5, none⟩ = some (.int .i64 (ee : Int))) := fun w' hb =>
          have h := (HC.out k _ hv w' (below_join hA.out hb)).2
          ⟨h 0 _ rfl, h 1 _ rfl, h 2 _ rfl, h 3 _ rfl, h 4 _ rfl, h 5 _ rfl⟩
        clear hv
        generalize ByteArray.mk ed.toArray = D at *
        go_wp2_with fail
        refine Lw.wp_region_quiet_below (by kernel_rfl) (by kernel_rfl) ?_
        repeat (first
          | go_big_quiet_skip
          | (go_big_quiet_want; go_big_quiet_op; go_big_quiet_on)
          | (go_big_quiet_want; go_big_quiet_op; apply Exists.intro; refine ⟨fun _ hb' => ?_, ?_⟩; (first
            | exact Lw.val_rfl _
            | (simp [go_sem, (HF.out _ hb').1, (HF.out _ hb').2.1, (HF.out _ hb').2.2.1, (HF.out _ hb').2.2.2.1, (HF.out _ hb').2.2.2.2.1, (HF.out _ hb').2.2.2.2.2]; rfl)
            | (simp [go_sem, (HF2.out _ hb').1, (HF2.out _ hb').2.1, (HF2.out _ hb').2.2.1, (HF2.out _ hb').2.2.2.1, (HF2.out _ hb').2.2.2.2.1, (HF2.out _ hb').2.2.2.2.2]; rfl)); go_big_quiet_on))
        refine wpQuiet_nil ?_
        intro w2 hb2
        have hA2 : Hid (Below w.heap.size w w2) := below_join hA.out hb2
        clear hb2 HF HF2 hA
        go_wp2
        exact ⟨⟨k + 1, by omega, by simp, hA2⟩, by simp [intOf]; omega⟩
      · obtain rfl : k = L := by omega
        go_wp2
        go_ret
        exact ⟨rfl, hA.out⟩
end Go.Proofs.YthappkhiiopfgaaGreatDoor
