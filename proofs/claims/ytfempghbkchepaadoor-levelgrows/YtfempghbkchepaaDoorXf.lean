/- Package status, landed: what lies where; New, is, step, Good, Bad, Get. -/
import Derived.Test.YtfempghbkchepaaDoorJ19
import Derived.Test.YtfempghbkchepaaDoorA19
import Derived.BigQuiet
namespace Go.Proofs.YtfempghbkchepaaDoor
open Go.RowKit Go.WideShapes Go.ChangeShapes Go.ChangeAt
set_option linter.unusedVariables false
structure St (w : World) (p : Nat) (s : List Nat) (g : Nat) : Prop where
  row : RowT 38 w p #[.slice (some ⟨g, 0, none⟩) s.length s.length]
  cs : RowT 3 w g (sA s)
  ok : Q19.Ok s
def StatusAt : Ob.A (List Nat) := fun w p F s => ∃ g, (∀ j, F j ↔ j = p ∨ j = g) ∧ St w p s g
section
variable {w w' : World} {p g : Nat} {s t : List Nat}
theorem St.ne (h : St w p s g) : p ≠ g := fun e => by
  subst e
  have h1 : w.heap[p]? = some (.cells _ 38 (0, 0)) := h.row
  have h2 : w.heap[p]? = some (.cells _ 3 (0, 0)) := h.cs
  rw [h1] at h2
  injection h2 with h2
  injection h2 with _ h2
  exact absurd h2 (by decide)
theorem St.on (h : St w p s g) (hb : Below w.heap.size w w') : St w' p s g := ⟨h.row.on hb, h.cs.on hb, h.ok⟩
theorem St.at_ (h : St w p s g) : StatusAt w p (fun j => j = p ∨ j = g) s := ⟨g, fun j => Iff.rfl, h⟩
theorem St.turn (h : St w p s g) (hc : RowT 3 w' g (sA t)) (hl : t.length = s.length) (hO : Q19.Ok t) (hk : Kept (fun j => j = g) w w') : St w' p t g := ⟨by rw [hl]; exact h.row.kept hk h.ne, hc, hO⟩
theorem St.num (h : St w p s g) {k x : Nat} (hk : s[k]? = some x) : w.cell? ⟨g, k, none⟩ = some (.int .i64 (x : Int)) := h.cs.c k _ (sL_at hk)
end
theorem status_is : Ob.Is StatusAt where
  on := fun {w w' p F s} ⟨g, hF, h⟩ hk => ⟨g, hF, (hk p ((hF p).2 (Or.inl rfl))).trans h.row, (hk g ((hF g).2 (Or.inr rfl))).trans h.cs, h.ok⟩
  lt := fun {w p F s} ⟨g, hF, h⟩ j hj => by
    rcases (hF j).1 hj with rfl | rfl
    · exact h.row.lt
    · exact h.cs.lt
set_option maxRecDepth 100000 in
set_option maxHeartbeats 4000000 in
theorem st_new (w : World) (n : Int) (hn : (Lit.int .i64 n).wf = true) : Ob.Makes Tryd.prog StatusAt 7 #[.int .i64 n] w (Q19.mk n) := by
  obtain ⟨K, hK⟩ : ∃ K, Q19.held n = K := ⟨_, rfl⟩
  have h1 : K ≤ 12 := by rw [← hK]; exact Q19.held_le n
  obtain ⟨z, hz⟩ : ∃ z : Int, max n 0 = z := ⟨_, rfl⟩
  have hM : min z 12 = (K : Int) := by rw [← hK, ← hz]; unfold Q19.held; omega
  have hmk := fun W => make19 (K : Int) K rfl h1 W
  have hmkE : Q19.mk n = List.replicate K 0 := by unfold Q19.mk; rw [hK]
  unfold Ob.Makes
  rw [hmkE]
  clear hK hn hmkE
  go_enter Tryd.func7, Tryd.ntmps7
  go_wp2_with fail
  go_ret
  have hl : (List.replicate K 0).length = K := List.length_replicate
  have h0 : RowT 3 (w.alloc (.cells (sL (List.replicate K 0)).toArray 3)) w.heap.size (sL (List.replicate K 0)).toArray := RowT.new _ _ _
  have h2 := RowT.new 38 (w.alloc (.cells (sL (List.replicate K 0)).toArray 3)) #[.slice (some ⟨w.heap.size, 0, none⟩) K K]
  have hs : (w.alloc (.cells (sL (List.replicate K 0)).toArray 3)).heap.size = w.heap.size + 1 := by simp
  rw [hs] at h2
  have h1' := h0.on ((Below.refl _ _).alloc (Nat.le_refl _) (.cells #[.slice (some ⟨w.heap.size, 0, none⟩) K K] 38))
  refine ⟨w.heap.size + 1, fun g => g = w.heap.size + 1 ∨ g = w.heap.size, rfl, ⟨_, fun g => Iff.rfl, ?_, h1', ?_⟩, ?_, ?_⟩
  · rw [hl]; exact h2
  · exact ⟨by rw [hl]; exact h1, fun x hx => by rw [List.eq_of_mem_replicate hx]; omega⟩
  · rintro g (rfl | rfl)
    · omega
    · exact Nat.le_refl _
  · exact ((Below.refl _ _).alloc (Nat.le_refl _) _).alloc (by rw [hs]; omega) _
set_option maxRecDepth 100000 in
set_option maxHeartbeats 4000000 in
theorem st_isin (w : World) (p n c : Nat) (a : Option Addr) (k : Int) (h : RowT 38 w p #[.slice a n c]) : Calls Tryd.prog 21 #[Ob.ptr p, .int .i64 k] w fun e w' => e = .returned (.bool (decide (0 ≤ k ∧ k < (n : Int)))) ∧ w' = w := by
  have c1 : w.cell? ⟨p, 0, none⟩ = some (.slice a n c) := h.c 0 _ rfl
  clear h
  by_cases h0 : 0 ≤ k
  · have e : decide (0 ≤ k ∧ k < (n : Int)) = decide (k < (n : Int)) := by simp [h0]
    have d0 : decide (0 ≤ k) = true := decide_eq_true h0
    rw [e]
    clear e
    go_enter Tryd.func21, Tryd.ntmps21
    go_wp2
    go_ret
    exact ⟨rfl, rfl⟩
  · have e : decide (0 ≤ k ∧ k < (n : Int)) = false := by simp [h0]
    have d0 : decide (0 ≤ k) = false := decide_eq_false h0
    rw [e]
    clear e
    go_enter Tryd.func21, Tryd.ntmps21
    go_wp2
    go_ret
    exact ⟨rfl, rfl⟩
set_option maxRecDepth 100000 in
set_option maxHeartbeats 4000000 in
theorem st_step (w : World) (p : Nat) (F : Nat → Prop) (s : List Nat) (k b : Int) (hb : -1 ≤ b ∧ b ≤ 1) (h : StatusAt w p F s) : Ob.Turns Tryd.prog StatusAt 15 #[Ob.ptr p, .int .i64 k, .int .i64 b] w p F (add19 s k b) (.tuple #[]) := by
  have h0 := h
  obtain ⟨g, hF, h⟩ := h
  have HI : Hid (Calls Tryd.prog 21 #[Ob.ptr p, .int .i64 k] w fun e w' => e = .returned (.bool (decide (0 ≤ k ∧ k < (s.length : Int)))) ∧ w' = w) := st_isin w p _ _ _ k h.row
  have r0 := h.row.c 0 _ rfl
  unfold Ob.Turns
  by_cases hin : 0 ≤ k ∧ k < (s.length : Int)
  · rw [decide_eq_true hin] at HI
    obtain ⟨m, rfl⟩ : ∃ m : Nat, k = (m : Int) := ⟨k.toNat, by omega⟩
    have km : m < s.length := by omega
    obtain ⟨x, hx⟩ : ∃ x, s[m]? = some x := ⟨_, List.getElem?_eq_getElem km⟩
    have c0 := h.num hx
    have f0 : w.frozen? ⟨g, m, none⟩ = false := h.cs.f m
    have kmi : (m : Int) < (s.length : Int) := by omega
    have x7 : (x : Int) ≤ 7 := by have := h.ok.le x (List.mem_of_getElem? hx); omega
    have x0 : 0 ≤ (x : Int) := by omega
    obtain ⟨b0, b1⟩ := hb
    obtain ⟨z, hz⟩ : ∃ z : Int, max ((x : Int) + b) 0 = z := ⟨_, rfl⟩
    obtain ⟨y, hy⟩ : ∃ y : Nat, min z 7 = (y : Int) := ⟨(min z 7).toNat, by omega⟩
    have HA : Hid (add19 s (m : Int) b = s.set m y) := by
      show _ = _
      unfold add19
      rw [Q19.inn_nat km, if_pos rfl, Q19.at_nat hx, show (max 0 (min ((x : Int) + b) 7)).toNat = y by omega]
      rfl
    have HH : Hid (St w p s g) := h
    have HX : Hid (s[m]? = some x) := hx
    have HF : Hid (∀ j, F j ↔ j = p ∨ j = g) := hF
    have hy7 : y ≤ 7 := by omega
    clear h h0 hx hF hin
    have hl12 : (s.length : Int) ≤ 12 := by have := HH.out.ok.len; omega
    obtain ⟨n, hn⟩ : ∃ n, s.length = n := ⟨_, rfl⟩
    have HN : Hid (s.length = n) := hn
    rw [hn] at r0 kmi km hl12
    clear hn
    go_enter Tryd.func15, Tryd.ntmps15
    go_wp2_with fail
    refine HI.out.mono ?_
    rintro e w1 ⟨rfl, rfl⟩
    go_wp2_with fail
    go_region
    all_goals
      have hk1 : Kept (fun j => j = g) w1 (w1.drew.setCell ⟨g, m, none⟩ (.int .i64 (y : Int))) := (Kept.drew _ _).trans (Kept.set (F := fun j => j = g) _ _ _ rfl) (fun j hj => Or.inl hj)
      have hc1 : RowT 3 (w1.drew.setCell ⟨g, m, none⟩ (.int .i64 (y : Int))) g (sA (s.set m y)) := by
        rw [← sA_set]
        exact (HH.out.cs.on (Below.refl _ _).drew).set _ _
      go_end0
      rw [HA.out]
      refine ⟨rfl, F, ⟨g, HF.out, HH.out.turn hc1 (List.length_set ..) ?_ hk1⟩, fun j hj => Or.inl hj, hk1.mono (fun j hj => (HF.out j).2 (Or.inr hj))⟩
      refine ⟨by rw [List.length_set]; exact HH.out.ok.len, fun u hu => ?_⟩
      rcases List.mem_or_eq_of_mem_set hu with hu | rfl
      · exact HH.out.ok.le u hu
      · omega
  · rw [decide_eq_false hin] at HI
    unfold add19
    rw [Q19.inn_no hin]
    clear hF h hin
    generalize s.length = n at *
    go_enter Tryd.func15, Tryd.ntmps15
    go_wp2_with fail
    refine HI.out.mono ?_
    rintro e w1 ⟨rfl, rfl⟩
    go_wp2
    go_end0
    exact ⟨rfl, F, h0, fun g hg => Or.inl hg, Kept.refl _ _⟩
set_option maxRecDepth 100000 in
set_option maxHeartbeats 4000000 in
theorem st_bad (w : World) (p : Nat) (F : Nat → Prop) (s : List Nat) (k : Int) (hk : (Lit.int .i64 k).wf = true) (h : StatusAt w p F s) : Ob.Turns Tryd.prog StatusAt 9 #[Ob.ptr p, .int .i64 k] w p F (Q19.up s k) (.tuple #[]) := by
  have HS : Hid (Ob.Turns Tryd.prog StatusAt 15 #[Ob.ptr p, .int .i64 k, .int .i64 1] w p F (Q19.up s k) (.tuple #[])) := by
    have h1 := st_step w p F s k 1 (by decide) h
    obtain ⟨g, hF, h⟩ := h
    rw [add_up h.ok] at h1
    exact h1
  clear h
  unfold Ob.Turns
  go_enter Tryd.func9, Tryd.ntmps9
  go_wp2_with fail
  refine HS.out.mono ?_
  rintro e w1 ⟨rfl, hq⟩
  go_wp2
  go_end0
  exact ⟨rfl, hq⟩
end Go.Proofs.YtfempghbkchepaaDoor
