/- Layer 19: the document's table: Add. -/
import Derived.Test.YtfempghbkchepaaDoorF19
import Derived.Test.YtfempghbkchepaaDoorSj
import Derived.Test.YtfempghbkchepaaDoorHm
namespace Go.Proofs.YtfempghbkchepaaDoor
open Go.RowKit Go.WideShapes Go.ChangeShapes Go.ChangeAt
set_option linter.unusedVariables false
/-- What Add makes of the counters. -/
def add19 (s : List Nat) (k b : Int) : List Nat := if Q19.inn s k then s.set k.toNat (max 0 (min ((Q19.at_ s k : Int) + b) 7)).toNat else s
theorem sL_splice {s : List Nat} {m y : Nat} (h : m < s.length) : (sL s).take m ++ [.int .i64 (y : Int)] ++ (sL s).drop (m + [Value.int .i64 (y : Int)].length) = sL (s.set m y) := by
  have hl : m < (sL s).length := by unfold sL; rw [List.length_map]; exact h
  have e : sL (s.set m y) = (sL s).set m (.int .i64 (y : Int)) := by unfold sL; rw [List.map_set]
  rw [e, List.set_eq_take_append_cons_drop, if_pos hl, List.append_assoc]
  rfl
set_option maxRecDepth 100000 in
set_option maxHeartbeats 4000000 in
theorem rt_add (w : World) (r : Nat) (F : Nat → Prop) (s : List Nat) (k b : Int) (hb : -1 ≤ b ∧ b ≤ 1) (h : RtAt w r F s) : Ob.Turns Tryd.prog RtAt 10 #[Ob.ptr r, .int .i64 k, .int .i64 b] w r F (add19 s k b) (.tuple #[]) := by
  have h0 := h
  obtain ⟨a, c, hF, h, hO⟩ := h
  have r0 := h.row.c 0 _ rfl
  have hl12 : (s.length : Int) ≤ 12 := by have := hO.len; omega
  unfold Ob.Turns
  by_cases k0 : k < 0
  · unfold add19
    rw [Q19.inn_no (by omega)]
    clear hF h hO
    go_enter Tryd.func10, Tryd.ntmps10
    go_wp2
    go_end0
    exact ⟨rfl, F, h0, fun g hg => Or.inl hg, Kept.refl _ _⟩
  · obtain ⟨m, rfl⟩ := Int.eq_ofNat_of_zero_le (show 0 ≤ k by omega)
    by_cases km : m < s.length
    · obtain ⟨x, hx⟩ : ∃ x, s[m]? = some x := ⟨_, List.getElem?_eq_getElem km⟩
      obtain ⟨g, o, rfl, hc⟩ := h.num hx
      obtain ⟨c0, f0⟩ := hc w (Below.refl _ _)
      have kmi : (m : Int) < (s.length : Int) := by omega
      have kmi2 : ¬ ((s.length : Int) ≤ (m : Int)) := by omega
      have x7 : (x : Int) ≤ 7 := by have := hO.le x (List.mem_of_getElem? hx); omega
      have x0 : 0 ≤ (x : Int) := by omega
      obtain ⟨b0, b1⟩ := hb
      obtain ⟨z, hz⟩ : ∃ z : Int, min ((x : Int) + b) 7 = z := ⟨_, rfl⟩
      obtain ⟨y, hy⟩ : ∃ y : Nat, max 0 (min ((x : Int) + b) 7) = (y : Int) := ⟨(max 0 (min ((x : Int) + b) 7)).toNat, by omega⟩
      have HA : Hid (add19 s (m : Int) b = s.set m y) := by
        show _ = _
        unfold add19
        rw [Q19.inn_nat km, if_pos rfl, Q19.at_nat hx, hy]
        rfl
      rw [hz] at hy
      have HH : Hid (RtAt w r F s) := h0
      have HR : Hid (Rt w r s (some ⟨g, o, none⟩) c) := h
      have HO : Hid (Q19.Ok s) := hO
      have HX : Hid (s[m]? = some x) := hx
      have HF : Hid (∀ j, F j ↔ j = r ∨ Sg.At_ (some ⟨g, o, none⟩) c j) := hF
      have hc0 : 0 < c := by have := h.ol.sl.1; omega
      clear h h0 hO hx hF hc
      obtain ⟨n, hn⟩ : ∃ n, s.length = n := ⟨_, rfl⟩
      have HN : Hid (s.length = n) := hn
      rw [hn] at r0 hl12 km kmi kmi2
      clear hn
      go_enter Tryd.func10, Tryd.ntmps10
      go_wp2_with fail
      go_region
      all_goals
        have hs1 := (HR.out.on (Below.refl _ _).drew).ol.splice m [.int .i64 (y : Int)] (by rw [HR.out.ol.sl.2.2.1, HN.out]; exact (show m + 1 ≤ n * 1 by omega)) hc0
        rw [sL_splice (by rw [HN.out]; exact km)] at hs1
        obtain ⟨hs1, hk1⟩ := hs1
        have hk2 : Kept (Sg.At_ (some ⟨g, o, none⟩) c) w (w.drew.setCells g (o + m) [.int .i64 (y : Int)]) := (Kept.drew _ _).trans hk1 (fun j hj => Or.inl hj)
        go_end0
        refine ⟨rfl, F, ?_, fun j hj => Or.inl hj, hk2.mono (fun j hj => (HF.out j).2 (Or.inr hj))⟩
        rw [HA.out]
        have el : (s.set m y).length = n := by rw [List.length_set]; exact HN.out
        refine ⟨_, c, HF.out, ⟨?_, ?_⟩, ?_⟩
        · rw [el, ← HN.out]; exact HR.out.ol.row hk2 HR.out.row (by decide)
        · rw [List.length_set]; exact hs1
        · refine ⟨by rw [List.length_set]; exact HO.out.len, fun u hu => ?_⟩
          rcases List.mem_or_eq_of_mem_set hu with hu | rfl
          · exact HO.out.le u hu
          · omega
    · unfold add19
      rw [Q19.inn_no (by omega)]
      have kmi : (s.length : Int) ≤ (m : Int) := by omega
      clear hF h hO
      generalize s.length = n at *
      go_enter Tryd.func10, Tryd.ntmps10
      go_wp2
      go_end0
      exact ⟨rfl, F, h0, fun g hg => Or.inl hg, Kept.refl _ _⟩
end Go.Proofs.YtfempghbkchepaaDoor
