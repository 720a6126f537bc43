/- Layer 19: the document's table, made: NewTable. -/
import Derived.Test.YtfempghbkchepaaDoorE19
import Derived.Test.YtfempghbkchepaaDoorU2
import Derived.Laws.MakeOwn
import Derived.OwnWalk
namespace Go.Proofs.YtfempghbkchepaaDoor
open Go.RowKit Go.WideShapes Go.ChangeShapes Go.ChangeAt
set_option linter.unusedVariables false
theorem infoInt19 : (Tryd.prog.info? 3).map (fun i => (i.zero, i.size, i.bytes)) = some (some (.int .i64 0), 1, 8) := by kernel_rfl
theorem made_sA (n : Nat) (hn : n ≤ 12) : madeCells #[.int .i64 0] n = (sL (List.replicate n 0)).toArray := by
  apply Array.ext'
  apply List.ext_getElem?
  intro j
  by_cases hj : j < n
  · have h2 : j % 1 = 0 := by omega
    simp [madeCells, sL, hj, h2]
  · rw [List.getElem?_eq_none (by simp [size_madeCells]; omega), List.getElem?_eq_none (by unfold sL; simp; omega)]
theorem make19 (x : Int) (n : Nat) (hx : x = (n : Int)) (hn : n ≤ 12) (W : World) : (Instr.makeSlice 36 (.int .i64 x) (.int .i64 x)).run Tryd.prog W = .ok (.slice (some ⟨W.heap.size, 0, none⟩) n n) (W.alloc (.cells (sL (List.replicate n 0)).toArray 3)) := by
  obtain ⟨i0, hi, hz0, hz1, hz2⟩ := info_parts infoInt19
  subst hx
  have h := run_make (P := Tryd.prog) W 36 3 i0 (.int .i64 0) Tryd.underlying36 hi hz0 .i64 .i64 (n : Int) (n : Int) (by omega) (Int.le_refl _) (by rw [hz2]; omega) (by omega)
  rw [h]
  simp only [Int.toNat_natCast, hz1, Nat.mul_one]
  rw [← made_sA n hn]
  rfl
/-- A list that lies in a block of its own, all of it. -/
theorem ol_row {T : TypeId} {B : Nat} {w : World} {g : Nat} {l : List Nat} (h : RowT T w g (sL l).toArray) (hl : l.length ≤ 12) (hB : B ≤ g) : Sg.OL T 1 B w (some ⟨g, 0, none⟩) l.length l.length (sL l) := by
  have e : (sL l).length = l.length := by unfold sL; rw [List.length_map]
  refine ⟨⟨Nat.le_refl _, by unfold maxLen; omega, by rw [e, Nat.mul_one], Or.inr ⟨g, 0, rfl, h.lt, fun k v hk => ?_, fun j hj => ⟨?_, ?_⟩⟩⟩, fun _ => ⟨g, 0, _, rfl, hB, h⟩⟩
  · rw [Nat.zero_add]
    exact h.c k v (by rw [List.getElem?_toArray]; exact hk)
  · obtain ⟨v, hv⟩ : ∃ v, (sL l)[j]? = some v := ⟨_, List.getElem?_eq_getElem (by rw [e]; omega)⟩
    rw [Nat.zero_add, h.c j v (by rw [List.getElem?_toArray]; exact hv)]
    rfl
  · exact h.f _
set_option maxRecDepth 100000 in
set_option maxHeartbeats 4000000 in
theorem rt_new (w : World) (n : Int) (hn : (Lit.int .i64 n).wf = true) : Ob.Makes Tryd.prog RtAt 8 #[.int .i64 n] w (Q19.mk n) := by
  obtain ⟨K, hK⟩ : ∃ K, Q19.held n = K := ⟨_, rfl⟩
  have h1 : K ≤ 12 := by rw [← hK]; exact Q19.held_le n
  have hM : max 0 (min n 12) = (K : Int) := by rw [← hK]; unfold Q19.held; omega
  have hmk := fun W => make19 (K : Int) K rfl h1 W
  have hmkE : Q19.mk n = List.replicate K 0 := by unfold Q19.mk; rw [hK]
  unfold Ob.Makes
  rw [hmkE]
  clear hK hn hmkE
  go_enter Tryd.func8, Tryd.ntmps8
  go_wp2_with fail
  go_ret
  have hl : (List.replicate K 0).length = K := List.length_replicate
  have h0 : RowT 3 (w.alloc (.cells (sL (List.replicate K 0)).toArray 3)) w.heap.size (sL (List.replicate K 0)).toArray := RowT.new _ _ _
  have h2 := RowT.new 40 (w.alloc (.cells (sL (List.replicate K 0)).toArray 3)) #[.slice (some ⟨w.heap.size, 0, none⟩) K K]
  have hs : (w.alloc (.cells (sL (List.replicate K 0)).toArray 3)).heap.size = w.heap.size + 1 := by simp
  rw [hs] at h2
  have h1' := h0.on ((Below.refl _ _).alloc (Nat.le_refl _) (.cells #[.slice (some ⟨w.heap.size, 0, none⟩) K K] 40))
  have ho := ol_row (B := 0) h1' (by rw [hl]; exact h1) (Nat.zero_le _)
  rw [hl] at ho
  refine ⟨w.heap.size + 1, fun g => g = w.heap.size + 1 ∨ Sg.At_ (some ⟨w.heap.size, 0, none⟩) K g, rfl, ⟨_, K, fun g => Iff.rfl, ⟨?_, ?_⟩, ?_⟩, ?_, ?_⟩
  · rw [hl]; exact h2
  · rw [hl]; exact ho
  · exact ⟨by rw [hl]; exact h1, fun x hx => by rw [List.eq_of_mem_replicate hx]; omega⟩
  · rintro g (rfl | ⟨_, hg⟩)
    · omega
    · injection hg with hg
      exact Nat.le_of_eq hg
  · exact ((Below.refl _ _).alloc (Nat.le_refl _) _).alloc (by rw [hs]; omega) _
end Go.Proofs.YtfempghbkchepaaDoor
