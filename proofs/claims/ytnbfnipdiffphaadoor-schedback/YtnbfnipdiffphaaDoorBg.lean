/- Package matrix, over the landed code: what is asked of every one of a list; lists that are alike. -/
import Derived.Test.YtnbfnipdiffphaaDoorBf
namespace Go.Proofs.YtnbfnipdiffphaaDoor
open Go.RowKit Go.WideShapes
set_option linter.unusedVariables false
namespace Bk
theorem at' {α : Type} {w : World} {g o cap sz : Nat} {l : List α} {f : α → List Value} (h : LI w (some ⟨g, o, none⟩) cap l.length (l.flatMap f)) (hf : ∀ x, (f x).length = sz) {i : Nat} {x : α} (hx : l[i]? = some x) : ∀ j u, (f x)[j]? = some u → w.cell? ⟨g, o + (i * sz + j), none⟩ = some u := by
  obtain ⟨g', o', e, _, hc⟩ := h.at hf i x hx
  injection e with e
  injection e with e1 e2
  subst e1 e2
  exact hc
theorem e1 {w : World} {g o c i : Nat} {l : List Int} {x : Int} (h : LI w (some ⟨g, o, none⟩) c l.length (l.flatMap mC1)) (hx : l[i]? = some x) : w.cell? ⟨g, o + i, none⟩ = some (.int .i64 x) := by
  have := at' h (sz := 1) (fun _ => rfl) hx 0 _ rfl
  rwa [Nat.mul_one, Nat.add_zero] at this
theorem e3 {w : World} {g o c i : Nat} {l : List Mx.Msg} {x : Mx.Msg} (h : LI w (some ⟨g, o, none⟩) c l.length (l.flatMap mC2)) (hx : l[i]? = some x) : w.cell? ⟨g, o + i * 3, none⟩ = some (.int .u32 (x.id : Int)) ∧ w.cell? ⟨g, o + i * 3 + 1, none⟩ = some (.int .i64 x.owner) ∧ w.cell? ⟨g, o + i * 3 + 2, none⟩ = some (.bool x.event) := by
  have hc := at' h (sz := 3) (fun _ => rfl) hx
  refine ⟨?_, ?_, ?_⟩
  · have := hc 0 _ rfl; rwa [Nat.add_zero] at this
  · have := hc 1 _ rfl; rwa [← Nat.add_assoc] at this
  · have := hc 2 _ rfl; rwa [← Nat.add_assoc] at this
theorem e6 {w : World} {g o c i : Nat} {l : List Mx.Win} {x : Mx.Win} (h : LI w (some ⟨g, o, none⟩) c l.length (l.flatMap mC3)) (hx : l[i]? = some x) : w.cell? ⟨g, o + i * 6, none⟩ = some (.int .i64 x.kind) ∧ w.cell? ⟨g, o + i * 6 + 1, none⟩ = some (.int .i64 x.start) ∧ w.cell? ⟨g, o + i * 6 + 2, none⟩ = some (.int .i64 x.fin) ∧ w.cell? ⟨g, o + i * 6 + 3, none⟩ = some (.int .i64 x.cycle) ∧ w.cell? ⟨g, o + i * 6 + 4, none⟩ = some (.int .i64 x.rep) ∧ w.cell? ⟨g, o + i * 6 + 5, none⟩ = some (.int .i64 x.msg) := by
  have hc := at' h (sz := 6) (fun _ => rfl) hx
  refine ⟨?_, ?_, ?_, ?_, ?_, ?_⟩
  · have := hc 0 _ rfl; rwa [Nat.add_zero] at this
  · have := hc 1 _ rfl; rwa [← Nat.add_assoc] at this
  · have := hc 2 _ rfl; rwa [← Nat.add_assoc] at this
  · have := hc 3 _ rfl; rwa [← Nat.add_assoc] at this
  · have := hc 4 _ rfl; rwa [← Nat.add_assoc] at this
  · have := hc 5 _ rfl; rwa [← Nat.add_assoc] at this
theorem lsucc {α : Type} {l r : List α} {k : Nat} {x y : α} (hx : l[k]? = some x) (hy : r[k]? = some y) (hb : ∀ j a b, j < k → l[j]? = some a → r[j]? = some b → a = b) (h : x = y) : ∀ j a b, j < k + 1 → l[j]? = some a → r[j]? = some b → a = b := fun j a b hj ha hb' => by
  rcases Nat.lt_or_eq_of_le (Nat.le_of_lt_succ hj) with h1 | h1
  · exact hb j a b h1 ha hb'
  · subst h1
    rw [hx] at ha
    rw [hy] at hb'
    injection ha with ha
    injection hb' with hb'
    rw [← ha, ← hb', h]
theorem lsame {α : Type} {l r : List α} (hl : l.length = r.length) (h : ∀ (j : Nat) x y, l[j]? = some x → r[j]? = some y → x = y) : l = r := by
  apply List.ext_getElem?
  intro j
  by_cases hj : j < l.length
  · have h1 := List.getElem?_eq_getElem hj
    have h2 := List.getElem?_eq_getElem (show j < r.length by omega)
    rw [h1, h2, h j _ _ h1 h2]
  · rw [List.getElem?_eq_none (by omega), List.getElem?_eq_none (by omega)]
theorem lother {α : Type} [DecidableEq α] {l r : List α} {k : Nat} {x y : α} (hx : l[k]? = some x) (hy : r[k]? = some y) (h : x ≠ y) : false = decide (l = r) := by
  refine (decide_eq_false (fun e => h ?_)).symm
  subst e
  rw [hx] at hy
  injection hy
theorem asucc {α : Type} {p : α → Bool} {l : List α} {k : Nat} {x : α} (hx : l[k]? = some x) (hb : ∀ j a, j < k → l[j]? = some a → p a = true) (h : p x = true) : ∀ j a, j < k + 1 → l[j]? = some a → p a = true := fun j a hj ha => by
  rcases Nat.lt_or_eq_of_le (Nat.le_of_lt_succ hj) with h1 | h1
  · exact hb j a h1 ha
  · subst h1
    rw [hx] at ha
    injection ha with ha
    rw [← ha, h]
theorem aall {α : Type} {p : α → Bool} {l : List α} (h : ∀ (j : Nat) a, l[j]? = some a → p a = true) : l.all p = true := List.all_eq_true.2 fun x hx => by
  obtain ⟨j, hj⟩ := List.getElem?_of_mem hx
  exact h j x hj
theorem anot {α : Type} {p : α → Bool} {l : List α} {k : Nat} {x : α} (hx : l[k]? = some x) (h : p x = false) : l.all p = false := by
  cases e : l.all p with
  | false => rfl
  | true =>
    have := List.all_eq_true.1 e x (List.mem_of_getElem? hx)
    rw [h] at this
    cases this
end Bk
set_option maxRecDepth 100000 in
set_option maxHeartbeats 4000000 in
theorem mk_all1 (w : World) (hT : Tab w) (l : List Int) (s : Option Addr) (c : Nat) (h : LI w s c l.length (l.flatMap mC1)) (hl : l.length ≤ 1000) : Calls Tryd.prog 55 #[.slice s l.length c, .int .i64 4, .func (.func 56) #[] #[]] w fun e w' => e = .returned (.bool (decide (l.length ≤ 4) && l.all (fun x => Mx.within x 0 99))) ∧ Below w.heap.size w w' := by
  have HR1 : Hid (∀ (k : Nat) x, l[k]? = some x → (fun x => Mx.within x 0 99) x = false → l.all (fun x => Mx.within x 0 99) = false) := fun k x hx h => Bk.anot hx h
  have HR2 : Hid ((∀ (j : Nat) x, l[j]? = some x → (fun x => Mx.within x 0 99) x = true) → l.all (fun x => Mx.within x 0 99) = true) := fun h => Bk.aall h
  have HG : Hid (∀ i, i < l.length → ∃ x, l[i]? = some x) := fun i hi => ⟨_, List.getElem?_eq_getElem hi⟩
  have HG2 : Hid (∀ (i : Nat) x, l[i]? = some x → i < l.length) := fun i x hi => (List.getElem?_eq_some_iff.1 hi).1
  have HL : Hid (∀ w', Below w.heap.size w w' → LI w' s c l.length (l.flatMap mC1)) := fun w' hb => h.on hb
  have HA : Hid (∀ (w' : World) (g o : Nat), LI w' (some ⟨g, o, none⟩) c l.length (l.flatMap mC1) → ∀ i x, l[i]? = some x → w'.cell? ⟨g, o + i, none⟩ = some (.int .i64 x)) := fun w' g o h i x hx => Bk.e1 h hx
  have HS : Hid (∀ i x, l[i]? = some x → ∃ g o, s = some ⟨g, o, none⟩) := fun i x hx => by
    obtain ⟨g, o, hs, _⟩ := h.at (sz := 1) (fun _ => rfl) i x hx
    exact ⟨g, o, hs⟩
  have HP : Hid (∀ (w : World) (x : Int) (b : Bool), (fun x => Mx.within x 0 99) x = b → Calls Tryd.prog 56 #[.int .i64 x] w fun e w' => e = .returned (.bool b) ∧ w' = w) := fun w x b hb => by subst hb; exact mk_number w x
  clear h hT
  generalize l.flatMap mC1 = C at HL HA
  generalize (fun x => Mx.within x 0 99) = p at HR1 HR2 HP ⊢
  by_cases h0 : l.length ≤ 4
  · have i0 : ¬ ((4 : Int) < (l.length : Int)) := by omega
    rw [decide_eq_true h0, Bool.true_and]
    generalize l.all p = R at HR1 HR2 ⊢
    generalize l.length = n at HG HG2 HL HA hl i0 h0 ⊢
    go_enter Tryd.func55, Tryd.ntmps55
    go_wp2_with fail
    go_loopw [15] (fun i wr => ∃ k : Nat, k ≤ n ∧ i = .int .i64 k ∧ Hid (Below w.heap.size w wr) ∧ Hid (∀ (j : Nat) x, j < k → l[j]? = some x → p x = true)) (fun i _ => n - (intOf i).toNat)
    case atStart => exact ⟨0, Nat.zero_le _, rfl, Below.refl _ _, fun j x h => absurd h (Nat.not_lt_zero _)⟩
    case round =>
      obtain ⟨k, hk, rfl, HB, HF⟩ := hrel
      by_cases hlt : k < n
      · obtain ⟨x, hx⟩ := HG.out k hlt
        obtain ⟨g, o, rfl⟩ := HS.out k x hx
        have hc := HA.out wr g o (HL.out wr HB.out) k x hx
        have HX : Hid (l[k]? = some x) := hx
        clear hx HG HS HA HL
        cases hp : p x
        · skip
          have hR := HR1.out k x HX.out hp
          subst hR
          clear HR1 HR2 HF
          go_wp2_with fail
          refine (HP.out wr x _ hp).mono ?_
          rintro e w2 ⟨rfl, rfl⟩
          clear HP HX
          go_wp2
          go_ret
          exact ⟨rfl, HB.out⟩
        · skip
          have HF2 : Hid (∀ (j : Nat) x, j < k + 1 → l[j]? = some x → p x = true) := Bk.asucc HX.out HF.out hp
          clear HR1 HR2 HF
          go_wp2_with fail
          refine (HP.out wr x _ hp).mono ?_
          rintro e w2 ⟨rfl, rfl⟩
          clear HP HX
          go_wp2
          first
            | exact ⟨⟨k + 1, by omega, by simp, HB, HF2⟩, by simp [intOf]; omega⟩
            | (go_roundw; (case rel => exact ⟨k + 1, by omega, rfl, HB, HF2⟩); (case measure => simp only [intOf]; omega))
      · have hR := HR2.out (fun j x hx => HF.out j x (by have := HG2.out j x hx; omega) hx)
        subst hR
        clear HR1 HR2 HF HG HG2 HL HA HS HP
        go_wp2
        go_ret
        exact ⟨rfl, HB.out⟩
  · have i0 : (4 : Int) < (l.length : Int) := by omega
    rw [decide_eq_false h0, Bool.false_and]
    clear HR1 HR2 HG HG2 HL HA HS HP
    generalize l.length = n at *
    go_enter Tryd.func55, Tryd.ntmps55
    go_wp2
    go_ret
    exact ⟨rfl, Below.refl _ _⟩
set_option maxRecDepth 100000 in
set_option maxHeartbeats 4000000 in
theorem mk_all2 (w : World) (hT : Tab w) (l : List Mx.Msg) (s : Option Addr) (c : Nat) (h : LI w s c l.length (l.flatMap mC2)) (hl : l.length ≤ 1000) : Calls Tryd.prog 57 #[.slice s l.length c, .int .i64 12, .func (.func 58) #[] #[]] w fun e w' => e = .returned (.bool (decide (l.length ≤ 12) && l.all Mx.msgOk)) ∧ Below w.heap.size w w' := by
  have HR1 : Hid (∀ (k : Nat) x, l[k]? = some x → Mx.msgOk x = false → l.all Mx.msgOk = false) := fun k x hx h => Bk.anot hx h
  have HR2 : Hid ((∀ (j : Nat) x, l[j]? = some x → Mx.msgOk x = true) → l.all Mx.msgOk = true) := fun h => Bk.aall h
  have HG : Hid (∀ i, i < l.length → ∃ x, l[i]? = some x) := fun i hi => ⟨_, List.getElem?_eq_getElem hi⟩
  have HG2 : Hid (∀ (i : Nat) x, l[i]? = some x → i < l.length) := fun i x hi => (List.getElem?_eq_some_iff.1 hi).1
  have HL : Hid (∀ w', Below w.heap.size w w' → LI w' s c l.length (l.flatMap mC2)) := fun w' hb => h.on hb
  have HA : Hid (∀ (w' : World) (g o : Nat), LI w' (some ⟨g, o, none⟩) c l.length (l.flatMap mC2) → ∀ i x, l[i]? = some x → w'.cell? ⟨g, o + i * 3, none⟩ = some (.int .u32 (x.id : Int)) ∧ w'.cell? ⟨g, o + i * 3 + 1, none⟩ = some (.int .i64 x.owner) ∧ w'.cell? ⟨g, o + i * 3 + 2, none⟩ = some (.bool x.event)) := fun w' g o h i x hx => Bk.e3 h hx
  have HS : Hid (∀ i x, l[i]? = some x → ∃ g o, s = some ⟨g, o, none⟩) := fun i x hx => by
    obtain ⟨g, o, hs, _⟩ := h.at (sz := 3) (fun _ => rfl) i x hx
    exact ⟨g, o, hs⟩
  have HP : Hid (∀ (w' : World) (i : Nat) (x : Mx.Msg) (b : Bool), l[i]? = some x → Below w.heap.size w w' → Mx.msgOk x = b → Calls Tryd.prog 58 #[.agg #[.int .u32 (x.id : Int), .int .i64 x.owner, .bool x.event]] w' fun e w'' => e = .returned (.bool b) ∧ Below w'.heap.size w' w'') := fun w' i x b _ hb e => by subst e; exact mk_message w' (hT.below hb) x
  clear h hT
  generalize l.flatMap mC2 = C at HL HA
  generalize Mx.msgOk = p at HR1 HR2 HP ⊢
  by_cases h0 : l.length ≤ 12
  · have i0 : ¬ ((12 : Int) < (l.length : Int)) := by omega
    rw [decide_eq_true h0, Bool.true_and]
    generalize l.all p = R at HR1 HR2 ⊢
    generalize l.length = n at HG HG2 HL HA hl i0 h0 ⊢
    go_enter Tryd.func57, Tryd.ntmps57
    go_wp2_with fail
    go_loopw [15] (fun i wr => ∃ k : Nat, k ≤ n ∧ i = .int .i64 k ∧ Hid (Below w.heap.size w wr) ∧ Hid (∀ (j : Nat) x, j < k → l[j]? = some x → p x = true)) (fun i _ => n - (intOf i).toNat)
    case atStart => exact ⟨0, Nat.zero_le _, rfl, Below.refl _ _, fun j x h => absurd h (Nat.not_lt_zero _)⟩
    case round =>
      obtain ⟨k, hk, rfl, HB, HF⟩ := hrel
      by_cases hlt : k < n
      · obtain ⟨x, hx⟩ := HG.out k hlt
        obtain ⟨g, o, rfl⟩ := HS.out k x hx
        have hc := HA.out wr g o (HL.out wr HB.out) k x hx
        have HX : Hid (l[k]? = some x) := hx
        obtain ⟨q0, q1, q2⟩ := hc
        have HB2 : Hid (Below w.heap.size w (wr.alloc (.cells #[.int .u32 (x.id : Int), .int .i64 x.owner, .bool x.event] 60))) := HB.out.alloc HB.out.size _
        clear hx HG HS HA HL
        cases hp : p x
        · skip
          have hR := HR1.out k x HX.out hp
          subst hR
          clear HR1 HR2 HF
          go_wp2_with fail
          refine (HP.out _ k x _ HX.out HB2.out hp).mono ?_
          rintro e w2 ⟨rfl, hb⟩
          have HB3 : Hid (Below w.heap.size w w2) := HB2.out.trans (hb.mono HB2.out.size)
          clear HP HX HB2 hb HB
          go_wp2
          go_ret
          exact ⟨rfl, HB3.out⟩
        · skip
          have HF2 : Hid (∀ (j : Nat) x, j < k + 1 → l[j]? = some x → p x = true) := Bk.asucc HX.out HF.out hp
          clear HR1 HR2 HF
          go_wp2_with fail
          refine (HP.out _ k x _ HX.out HB2.out hp).mono ?_
          rintro e w2 ⟨rfl, hb⟩
          have HB3 : Hid (Below w.heap.size w w2) := HB2.out.trans (hb.mono HB2.out.size)
          clear HP HX HB2 hb HB
          go_wp2
          first
            | exact ⟨⟨k + 1, by omega, by simp, HB3, HF2⟩, by simp [intOf]; omega⟩
            | (go_roundw; (case rel => exact ⟨k + 1, by omega, rfl, HB3, HF2⟩); (case measure => simp only [intOf]; omega))
      · have hR := HR2.out (fun j x hx => HF.out j x (by have := HG2.out j x hx; omega) hx)
        subst hR
        clear HR1 HR2 HF HG HG2 HL HA HS HP
        go_wp2
        go_ret
        exact ⟨rfl, HB.out⟩
  · have i0 : (12 : Int) < (l.length : Int) := by omega
    rw [decide_eq_false h0, Bool.false_and]
    clear HR1 HR2 HG HG2 HL HA HS HP
    generalize l.length = n at *
    go_enter Tryd.func57, Tryd.ntmps57
    go_wp2
    go_ret
    exact ⟨rfl, Below.refl _ _⟩
set_option maxRecDepth 100000 in
set_option maxHeartbeats 4000000 in
theorem mk_all3 (w : World) (hT : Tab w) (m : Mx.M) (l : List Mx.Win) (s : Option Addr) (c : Nat) (h : LI w s c l.length (l.flatMap mC3)) (hl : l.length ≤ 1000) : Calls Tryd.prog 59 #[.slice s l.length c, .int .i64 16, .func (.func 60) #[.agg (Bk.hCs m)] #[]] w fun e w' => e = .returned (.bool (decide (l.length ≤ 16) && l.all (Bk.win m))) ∧ Below w.heap.size w w' := by
  have HR1 : Hid (∀ (k : Nat) x, l[k]? = some x → (Bk.win m) x = false → l.all (Bk.win m) = false) := fun k x hx h => Bk.anot hx h
  have HR2 : Hid ((∀ (j : Nat) x, l[j]? = some x → (Bk.win m) x = true) → l.all (Bk.win m) = true) := fun h => Bk.aall h
  have HG : Hid (∀ i, i < l.length → ∃ x, l[i]? = some x) := fun i hi => ⟨_, List.getElem?_eq_getElem hi⟩
  have HG2 : Hid (∀ (i : Nat) x, l[i]? = some x → i < l.length) := fun i x hi => (List.getElem?_eq_some_iff.1 hi).1
  have HL : Hid (∀ w', Below w.heap.size w w' → LI w' s c l.length (l.flatMap mC3)) := fun w' hb => h.on hb
  have HA : Hid (∀ (w' : World) (g o : Nat), LI w' (some ⟨g, o, none⟩) c l.length (l.flatMap mC3) → ∀ i x, l[i]? = some x → w'.cell? ⟨g, o + i * 6, none⟩ = some (.int .i64 x.kind) ∧ w'.cell? ⟨g, o + i * 6 + 1, none⟩ = some (.int .i64 x.start) ∧ w'.cell? ⟨g, o + i * 6 + 2, none⟩ = some (.int .i64 x.fin) ∧ w'.cell? ⟨g, o + i * 6 + 3, none⟩ = some (.int .i64 x.cycle) ∧ w'.cell? ⟨g, o + i * 6 + 4, none⟩ = some (.int .i64 x.rep) ∧ w'.cell? ⟨g, o + i * 6 + 5, none⟩ = some (.int .i64 x.msg)) := fun w' g o h i x hx => Bk.e6 h hx
  have HS : Hid (∀ i x, l[i]? = some x → ∃ g o, s = some ⟨g, o, none⟩) := fun i x hx => by
    obtain ⟨g, o, hs, _⟩ := h.at (sz := 6) (fun _ => rfl) i x hx
    exact ⟨g, o, hs⟩
  have HP : Hid (∀ (w' : World) (i : Nat) (x : Mx.Win) (b : Bool), l[i]? = some x → Below w.heap.size w w' → (Bk.win m) x = b → Calls Tryd.prog 60 #[.agg (Bk.hCs m), .agg #[.int .i64 x.kind, .int .i64 x.start, .int .i64 x.fin, .int .i64 x.cycle, .int .i64 x.rep, .int .i64 x.msg]] w' fun e w'' => e = .returned (.bool b) ∧ Below w'.heap.size w' w'') := fun w' i x b hx hb e => by subst e; exact mk_window w' m x
  generalize Bk.hCs m = hcs at HP ⊢
  clear h hT
  generalize l.flatMap mC3 = C at HL HA
  generalize (Bk.win m) = p at HR1 HR2 HP ⊢
  by_cases h0 : l.length ≤ 16
  · have i0 : ¬ ((16 : Int) < (l.length : Int)) := by omega
    rw [decide_eq_true h0, Bool.true_and]
    generalize l.all p = R at HR1 HR2 ⊢
    generalize l.length = n at HG HG2 HL HA hl i0 h0 ⊢
    go_enter Tryd.func59, Tryd.ntmps59
    go_wp2_with fail
    go_loopw [15] (fun i wr => ∃ k : Nat, k ≤ n ∧ i = .int .i64 k ∧ Hid (Below w.heap.size w wr) ∧ Hid (∀ (j : Nat) x, j < k → l[j]? = some x → p x = true)) (fun i _ => n - (intOf i).toNat)
    case atStart => exact ⟨0, Nat.zero_le _, rfl, Below.refl _ _, fun j x h => absurd h (Nat.not_lt_zero _)⟩
    case round =>
      obtain ⟨k, hk, rfl, HB, HF⟩ := hrel
      by_cases hlt : k < n
      · obtain ⟨x, hx⟩ := HG.out k hlt
        obtain ⟨g, o, rfl⟩ := HS.out k x hx
        have hc := HA.out wr g o (HL.out wr HB.out) k x hx
        have HX : Hid (l[k]? = some x) := hx
        obtain ⟨q0, q1, q2, q3, q4, q5⟩ := hc
        have HB2 : Hid (Below w.heap.size w (wr.alloc (.cells #[.int .i64 x.kind, .int .i64 x.start, .int .i64 x.fin, .int .i64 x.cycle, .int .i64 x.rep, .int .i64 x.msg] 58))) := HB.out.alloc HB.out.size _
        clear hx HG HS HA HL
        cases hp : p x
        · skip
          have hR := HR1.out k x HX.out hp
          subst hR
          clear HR1 HR2 HF
          go_wp2_with fail
          refine (HP.out _ k x _ HX.out HB2.out hp).mono ?_
          rintro e w2 ⟨rfl, hb⟩
          have HB3 : Hid (Below w.heap.size w w2) := HB2.out.trans (hb.mono HB2.out.size)
          clear HP HX HB2 hb HB
          go_wp2
          go_ret
          exact ⟨rfl, HB3.out⟩
        · skip
          have HF2 : Hid (∀ (j : Nat) x, j < k + 1 → l[j]? = some x → p x = true) := Bk.asucc HX.out HF.out hp
          clear HR1 HR2 HF
          go_wp2_with fail
          refine (HP.out _ k x _ HX.out HB2.out hp).mono ?_
          rintro e w2 ⟨rfl, hb⟩
          have HB3 : Hid (Below w.heap.size w w2) := HB2.out.trans (hb.mono HB2.out.size)
          clear HP HX HB2 hb HB
          go_wp2
          first
            | exact ⟨⟨k + 1, by omega, by simp, HB3, HF2⟩, by simp [intOf]; omega⟩
            | (go_roundw; (case rel => exact ⟨k + 1, by omega, rfl, HB3, HF2⟩); (case measure => simp only [intOf]; omega))
      · have hR := HR2.out (fun j x hx => HF.out j x (by have := HG2.out j x hx; omega) hx)
        subst hR
        clear HR1 HR2 HF HG HG2 HL HA HS HP
        go_wp2
        go_ret
        exact ⟨rfl, HB.out⟩
  · have i0 : (16 : Int) < (l.length : Int) := by omega
    rw [decide_eq_false h0, Bool.false_and]
    clear HR1 HR2 HG HG2 HL HA HS HP
    generalize l.length = n at *
    go_enter Tryd.func59, Tryd.ntmps59
    go_wp2
    go_ret
    exact ⟨rfl, Below.refl _ _⟩
end Go.Proofs.YtnbfnipdiffphaaDoor
