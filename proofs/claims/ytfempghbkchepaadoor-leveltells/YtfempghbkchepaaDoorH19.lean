/- Layer 19: the document's table: Spread. -/
import Derived.Test.YtfempghbkchepaaDoorG19
namespace Go.Proofs.YtfempghbkchepaaDoor
open Go.RowKit Go.WideShapes Go.ChangeShapes Go.ChangeAt
set_option linter.unusedVariables false
namespace Q19
/-- The least and the greatest of the first i, and of the first of all. -/
def loT (l : List Nat) (x i : Nat) : Nat := (l.take i).foldl min x
def hiT (l : List Nat) (x i : Nat) : Nat := (l.take i).foldl max x
theorem loT_succ {l : List Nat} {i y : Nat} (x : Nat) (h : l[i]? = some y) : loT l x (i + 1) = min (loT l x i) y := by
  unfold loT
  rw [List.take_add_one, h]
  simp
theorem hiT_succ {l : List Nat} {i y : Nat} (x : Nat) (h : l[i]? = some y) : hiT l x (i + 1) = max (hiT l x i) y := by
  unfold hiT
  rw [List.take_add_one, h]
  simp
theorem loT_all {l : List Nat} {x : Nat} (h : l[0]? = some x) : loT l x l.length = lo l := by
  unfold loT
  rw [List.take_length]
  cases l with
  | nil => simp at h
  | cons z t =>
    have : z = x := by simpa using h
    subst this
    show t.foldl min (min z z) = t.foldl min z
    rw [Nat.min_self]
theorem hiT_all {l : List Nat} {x : Nat} (h : l[0]? = some x) : hiT l x l.length = hi l := by
  unfold hiT
  rw [List.take_length]
  cases l with
  | nil => simp at h
  | cons z t =>
    have : z = x := by simpa using h
    subst this
    show t.foldl max (max z z) = t.foldl max z
    rw [Nat.max_self]
theorem loT_le (l : List Nat) (x i : Nat) : loT l x i ≤ x := foldl_min_le _ _
theorem le_hiT (l : List Nat) (x i : Nat) : x ≤ hiT l x i := le_foldl_max _ _
theorem hiT_le {l : List Nat} (hO : Ok l) {x : Nat} (hx : x ≤ 7) (i : Nat) : hiT l x i ≤ 7 := foldl_max_le _ _ hx (fun y hy => hO.le y (List.mem_of_mem_take hy))
end Q19
set_option maxRecDepth 100000 in
set_option maxHeartbeats 4000000 in
theorem rt_spread (w : World) (r : Nat) (F : Nat → Prop) (s : List Nat) (h : RtAt w r F s) : Ob.Looks Tryd.prog 19 #[Ob.ptr r] w (.tuple #[.int .i64 (Q19.spread s : Int), .int .i64 (Q19.hi s : Int)]) := by
  obtain ⟨a, c, hF, h, hO⟩ := h
  have r0 := h.row.c 0 _ rfl
  have hl12 : (s.length : Int) ≤ 12 := by have := hO.len; omega
  unfold Ob.Looks
  by_cases hz : s.length = 0
  · obtain rfl := List.length_eq_zero_iff.1 hz
    clear hF h hO
    go_enter Tryd.func19, Tryd.ntmps19
    go_wp2
    go_ret2
    exact ⟨rfl, Below.refl _ _⟩
  · obtain ⟨x, hx⟩ : ∃ x, s[0]? = some x := ⟨_, List.getElem?_eq_getElem (by omega)⟩
    obtain ⟨g, o, rfl, hc⟩ := h.num hx
    obtain ⟨c0, f0⟩ := hc w (Below.refl _ _)
    rw [Nat.add_zero] at c0
    obtain ⟨n, hn⟩ : ∃ n, s.length = n := ⟨_, rfl⟩
    have HN : Hid (s.length = n) := hn
    have x7 : x ≤ 7 := hO.le x (List.mem_of_getElem? hx)
    have HR : Hid (Rt w r s (some ⟨g, o, none⟩) c) := h
    have HO : Hid (Q19.Ok s) := hO
    have HX : Hid (s[0]? = some x) := hx
    have hn0 : ¬ ((n : Int) = 0) := by omega
    have hn1 : (0 : Int) < (n : Int) := by omega
    rw [hn] at r0 hl12 hz
    obtain ⟨D, hD⟩ : ∃ D : Nat, Q19.spread s = D := ⟨_, rfl⟩
    obtain ⟨M, hM⟩ : ∃ M : Nat, Q19.hi s = M := ⟨_, rfl⟩
    have HD : Hid (Q19.spread s = D) := hD
    have HM : Hid (Q19.hi s = M) := hM
    rw [hD, hM]
    clear hD hM
    clear h hO hx hF hc hn f0
    go_enter Tryd.func19, Tryd.ntmps19
    go_wp2_with fail
    go_cut [2, 3, 4, 5] from 7 (fun v2 v3 v4 v5 wx => v2 = .int .i64 0 ∧ v3 = .int .i64 0 ∧ v4 = .int .i64 (x : Int) ∧ v5 = .int .i64 (x : Int) ∧ Hid (Below w.heap.size w wx))
    case first =>
      go_region
      all_goals
        go_wp2_with fail
        go_meet
        case rel => exact ⟨rfl, rfl, rfl, rfl, (Below.refl _ _).drew⟩
    case rest =>
      obtain ⟨rfl, rfl, rfl, rfl, HB⟩ := hcut
      clear c0 r0
      have r0 := (HR.out.on HB.out).row.c 0 _ rfl
      rw [HN.out] at r0
      have HL0 : Hid (Q19.loT s x 0 = x) := rfl
      have HH0 : Hid (Q19.hiT s x 0 = x) := rfl
      go_wp2_with fail
      go_loopw [4, 5, 6] (fun v4 v5 v6 wr => ∃ i A B : Nat, i ≤ n ∧ v4 = .int .i64 (A : Int) ∧ v5 = .int .i64 (B : Int) ∧ v6 = .int .i64 (i : Int) ∧ Hid (Q19.loT s x i = A) ∧ Hid (Q19.hiT s x i = B) ∧ Hid (Below w.heap.size w wr)) (fun _ _ v6 _ => n - (intOf v6).toNat)
      case atStart => exact ⟨0, x, x, Nat.zero_le _, rfl, rfl, rfl, HL0, HH0, HB⟩
      case round =>
        clear r0 HL0 HH0 HB
        obtain ⟨i, A, B, hi, rfl, rfl, rfl, HL, HH, HB⟩ := hrel
        have r0 := (HR.out.on HB.out).row.c 0 _ rfl
        rw [HN.out] at r0
        by_cases hin : i < n
        · have ii : (i : Int) < (n : Int) := by omega
          have i2 : ¬ ((n : Int) ≤ (i : Int)) := by omega
          obtain ⟨y, hy⟩ : ∃ y, s[i]? = some y := ⟨_, List.getElem?_eq_getElem (by rw [HN.out]; exact hin)⟩
          obtain ⟨g', o', e1, hc⟩ := HR.out.num hy
          injection e1 with e1
          injection e1 with e1 e2
          subst e1 e2
          obtain ⟨c0, f0⟩ := hc _ HB.out
          have HL2 : Hid (Q19.loT s x (i + 1) = min A y) := by have h1 := Q19.loT_succ x hy; rw [HL.out] at h1; exact h1
          have HH2 : Hid (Q19.hiT s x (i + 1) = max B y) := by have h1 := Q19.hiT_succ x hy; rw [HH.out] at h1; exact h1
          obtain ⟨A2, hA2⟩ : ∃ A2 : Nat, min A y = A2 := ⟨_, rfl⟩
          obtain ⟨B2, hB2⟩ : ∃ B2 : Nat, max B y = B2 := ⟨_, rfl⟩
          have mA : min (A : Int) (y : Int) = (A2 : Int) := by omega
          have mB : max (B : Int) (y : Int) = (B2 : Int) := by omega
          rw [hA2] at HL2
          rw [hB2] at HH2
          clear hA2 hB2 hc hy f0 HL HH
          go_wp2_with fail
          go_region
          all_goals
            go_wp2_with fail
            exact ⟨⟨i + 1, A2, B2, by omega, rfl, rfl, rfl, HL2, HH2, HB.out.drew⟩, by simp only [intOf]; omega⟩
        · obtain rfl : i = n := by omega
          have eA : A = Q19.lo s := by rw [← HL.out, ← HN.out]; exact Q19.loT_all HX.out
          have eB : B = Q19.hi s := by rw [← HH.out, ← HN.out]; exact Q19.hiT_all HX.out
          have ab : A ≤ B := by rw [← HL.out, ← HH.out]; exact Nat.le_trans (Q19.loT_le _ _ _) (Q19.le_hiT _ _ _)
          have b7 : B ≤ 7 := by rw [← HH.out]; exact Q19.hiT_le HO.out x7 _
          have hd : (B : Int) - (A : Int) = (D : Int) := by rw [← HD.out]; unfold Q19.spread; rw [← eA, ← eB]; omega
          have eM : B = M := eB.trans HM.out
          clear eA eB HL HH
          subst eM
          go_wp2
          go_ret2
          exact ⟨rfl, HB.out⟩
end Go.Proofs.YtfempghbkchepaaDoor
