/- Law 8's 'same' over its text. -/
import Derived.Test.YthkaekpoicodeaaGreatDoorH2
import Derived.Test.YthkaekpoicodeaaGreatDoorU2
namespace Go.Proofs.YthkaekpoicodeaaGreatDoor
open Go.ChangeShapes Go.WideShapes Go.ChangeAt Go.RowKit
set_option linter.unusedVariables false
theorem cell_lt8 {w : World} {b k : Nat} {v : Value} (h : w.cell? ⟨b, k, none⟩ = some v) : b < w.heap.size := by
  by_cases hb : b < w.heap.size
  · exact hb
  · exfalso
    unfold World.cell? at h
    rw [show w.heap[({ block := b, off := k, spot := none } : Addr).block]? = none from Array.getElem?_eq_none (by show w.heap.size ≤ b; omega)] at h
    cases h
theorem cell_on8 {w w' : World} (hb : Below w.heap.size w w') {b k : Nat} {v : Value} (h : w.cell? ⟨b, k, none⟩ = some v) : w'.cell? ⟨b, k, none⟩ = some v := (hb.cell (p := ⟨b, k, none⟩) (cell_lt8 h)).trans h
set_option maxRecDepth 100000 in
set_option maxHeartbeats 2000000 in
theorem same8_any (w : World) (s1 s2 : Option Addr) (cap1 cap2 : Nat) (l : List Mm.Ev) (h1 : EvIn w s1 cap1 l) (h2 : EvIn w s2 cap2 l) (hl : l.length ≤ 1000) :
    Calls Tryz.prog 10 #[.slice s1 l.length cap1, .slice s2 l.length cap2] w fun e w' => e = .returned (.bool true) ∧ Below w.heap.size w w' := by
  by_cases h0 : l = []
  · subst h0
    clear h1 h2 hl
    go_enter Tryz.func10, Tryz.ntmps10
    go_wp2
    go_loopw [5] (fun i wr => i = .int .i64 0 ∧ Hid (Below w.heap.size w wr)) (fun _ _ => 0)
    case atStart => exact ⟨rfl, Below.refl _ _⟩
    case round =>
      obtain ⟨rfl, hA⟩ := hrel
      go_wp2
      go_ret
      exact ⟨rfl, hA.out⟩
  · obtain ⟨v0, hv0⟩ : ∃ v, l[0]? = some v := by cases l with | nil => exact absurd rfl h0 | cons a l => exact ⟨a, rfl⟩
    obtain ⟨g1, o1, rfl, t1, c1⟩ := h1.at 0 v0 hv0
    obtain ⟨g2, o2, rfl, t2, c2⟩ := h2.at 0 v0 hv0
    clear c1 c2
    have n1 := h1.1
    have m1 := h1.2.1
    have n2 := h2.1
    have m2 := h2.2.1
    have HC : Hid (∀ k v, l[k]? = some v → ∀ w', Below w.heap.size w w' → (∀ j u, (evV v)[j]? = some u → w'.cell? ⟨g1, o1 + (k * 6 + j), none⟩ = some u) ∧ (∀ j u, (evV v)[j]? = some u → w'.cell? ⟨g2, o2 + (k * 6 + j), none⟩ = some u)) := fun k v hv w' hb => by
      refine ⟨fun j u hu => ?_, fun j u hu => ?_⟩
      · obtain ⟨g, o, e, _, c⟩ := h1.at k v hv
        injection e with e
        injection e with e1 e2
        subst e1 e2
        exact (hb.cell (p := ⟨g1, o1 + (k * 6 + j), none⟩) t1).trans (c j u hu)
      · obtain ⟨g, o, e, _, c⟩ := h2.at k v hv
        injection e with e
        injection e with e1 e2
        subst e1 e2
        exact (hb.cell (p := ⟨g2, o2 + (k * 6 + j), none⟩) t2).trans (c j u hu)
    have HG : Hid (∀ k, k < l.length → ∃ v, l[k]? = some v) := fun k hk => ⟨_, List.getElem?_eq_getElem hk⟩
    clear h1 h2 hv0
    generalize hL : l.length = L at *
    clear hL h0
    go_enter Tryz.func10, Tryz.ntmps10
    go_wp2
    go_loopw [5] (fun i wr => ∃ k : Nat, k ≤ L ∧ i = .int .i64 k ∧ Hid (Below w.heap.size w wr)) (fun i _ => L - (intOf i).toNat)
    case atStart => exact ⟨0, Nat.zero_le _, rfl, Below.refl _ _⟩
    case round =>
      obtain ⟨k, hk, rfl, hA⟩ := hrel
      by_cases hlt : k < L
      · obtain ⟨v, hv⟩ := HG.out k hlt
        obtain ⟨ek, ⟨ex, en, er, ed⟩, ee⟩ := v
        have HF : Hid (∀ w', Below wr.heap.size wr w' → w'.cell? ⟨g1, o1 + k * 6, none⟩ = some (.int .i64 (ek : Int)) ∧ w'.cell? ⟨g1, o1 + k * 6 + 1, none⟩ = some (.bool ex) ∧ w'.cell? ⟨g1, o1 + k * 6 + 2, none⟩ = some (.int .u32 (en : Int)) ∧ w'.cell? ⟨g1, o1 + k * 6 + 3, none⟩ = some (.bool er) ∧ w'.cell? ⟨g1, o1 + k * 6 + 4, none⟩ = some (.string ⟨ed.toArray⟩) ∧ w'.cell? ⟨g1, o1 + k * 6 + 5, none⟩ = some (.int .i64 (ee : Int))) := fun w' hb =>
          have h := (HC.out k _ hv w' (below_join hA.out hb)).1
          ⟨h 0 _ rfl, h 1 _ rfl, h 2 _ rfl, h 3 _ rfl, h 4 _ rfl, h 5 _ rfl⟩
        have HF2 : Hid (∀ w', Below wr.heap.size wr w' → w'.cell? ⟨g2, o2 + k * 6, none⟩ = some (.int .i64 (ek : Int)) ∧ w'.cell? ⟨g2, o2 + k * 6 + 1, none⟩ = some (.bool ex) ∧ w'.cell? ⟨g2, o2 + k * 6 + 2, none⟩ = some (.int .u32 (en : Int)) ∧ w'.cell? ⟨g2, o2 + k * 6 + 3, none⟩ = some (.bool er) ∧ w'.cell? ⟨g2, o2 + k * 6 + 4, none⟩ = some (.string ⟨ed.toArray⟩) ∧ w'.cell? ⟨g2, o2 + k * 6 + 5, none⟩ = some (.int .i64 (ee : Int))) := fun w' hb =>
          have h := (HC.out k _ hv w' (below_join hA.out hb)).2
          ⟨h 0 _ rfl, h 1 _ rfl, h 2 _ rfl, h 3 _ rfl, h 4 _ rfl, h 5 _ rfl⟩
        clear hv
        generalize ByteArray.mk ed.toArray = D at *
        go_wp2_with fail
        refine Lw.wp_region_quiet_below (by kernel_rfl) (by kernel_rfl) ?_
        repeat (first
          | go_big_quiet_skip
          | (go_big_quiet_want; go_big_quiet_op; go_big_quiet_on)
          | (go_big_quiet_want; go_big_quiet_op; apply Exists.intro; refine ⟨fun _ hb' => ?_, ?_⟩; (first
            | exact Lw.val_rfl _
            | (simp [go_sem, (HF.out _ hb').1, (HF.out _ hb').2.1, (HF.out _ hb').2.2.1, (HF.out _ hb').2.2.2.1, (HF.out _ hb').2.2.2.2.1, (HF.out _ hb').2.2.2.2.2]; rfl)
            | (simp [go_sem, (HF2.out _ hb').1, (HF2.out _ hb').2.1, (HF2.out _ hb').2.2.1, (HF2.out _ hb').2.2.2.1, (HF2.out _ hb').2.2.2.2.1, (HF2.out _ hb').2.2.2.2.2]; rfl)); go_big_quiet_on))
        refine wpQuiet_nil ?_
        intro w2 hb2
        have hA2 : Hid (Below w.heap.size w w2) := below_join hA.out hb2
        clear hb2 HF HF2 hA
        go_wp2
        exact ⟨⟨k + 1, by omega, by simp, hA2⟩, by simp [intOf]; omega⟩
      · obtain rfl : k = L := by omega
        go_wp2
        go_ret
        exact ⟨rfl, hA.out⟩
end Go.Proofs.YthkaekpoicodeaaGreatDoor
