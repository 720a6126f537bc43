/- Layer 23: law 23's own few, least, known. -/
import Derived.Test.YtnbfnipdiffphaaDoorA23
import Derived.Test.YtnbfnipdiffphaaDoorU2
import Derived.WalkArith
import Derived.Test.YtnbfnipdiffphaaDoorBc
import Derived.Test.YtnbfnipdiffphaaDoorMb
import Derived.Test.YtnbfnipdiffphaaDoorYf
import Derived.Test.YtnbfnipdiffphaaDoorHl
import Derived.Deep.CutBlock
import Derived.WalkSpells
namespace Go.Proofs.YtnbfnipdiffphaaDoor
open Go.RowKit Go.WideShapes
set_option linter.unusedVariables false
set_option maxRecDepth 100000 in
set_option maxHeartbeats 1000000 in
theorem few23_any (w : World) (m : Mx.M) (a : Ma) : Ob.Looks Tryd.prog 8 #[mV m a] w (.bool (Mx.few m)) := by
  have HR : RowT 27 (w.alloc (.cells (mCs m a) 27)) w.heap.size (mCs m a) := RowT.new _ _ _
  obtain ⟨_, _, _, _, _, _, _, _, x8, x9, x10⟩ := HR.mat
  unfold Ob.Looks
  show Calls _ _ #[.agg (mCs m a)] _ _
  generalize mCs m a = cs at x8 x9 x10 ⊢
  clear HR
  unfold Mx.few
  generalize m.masters.length = n1 at x8 ⊢
  generalize m.messages.length = n2 at x9 ⊢
  generalize m.windows.length = n3 at x10 ⊢
  by_cases h1 : n1 ≤ 10
  · have i1 : (n1 : Int) ≤ 10 := by omega
    by_cases h2 : n2 ≤ 20
    · have i2 : (n2 : Int) ≤ 20 := by omega
      by_cases h3 : n3 ≤ 25
      · have i3 : (n3 : Int) ≤ 25 := by omega
        go_enter Tryd.func8, Tryd.ntmps8
        go_wp2
        go_ret
        exact ⟨by simp_all, (Below.refl _ _).alloc (Nat.le_refl _) _⟩
      · have i3 : ¬ ((n3 : Int) ≤ 25) := by omega
        go_enter Tryd.func8, Tryd.ntmps8
        go_wp2
        go_ret
        exact ⟨by simp_all, (Below.refl _ _).alloc (Nat.le_refl _) _⟩
    · have i2 : ¬ ((n2 : Int) ≤ 20) := by omega
      go_enter Tryd.func8, Tryd.ntmps8
      go_wp2
      go_ret
      exact ⟨by simp_all, (Below.refl _ _).alloc (Nat.le_refl _) _⟩
  · have i1 : ¬ ((n1 : Int) ≤ 10) := by omega
    go_enter Tryd.func8, Tryd.ntmps8
    go_wp2
    go_ret
    exact ⟨by simp_all, (Below.refl _ _).alloc (Nat.le_refl _) _⟩
def Mx.l23 : Mx.M := ⟨1, 2, 2, 400, 2, 16, 0, 8, [0], [⟨99, 0, false⟩], [⟨1, 40, 80, 0, 1, 0⟩]⟩
theorem l23_is : Mx.is Mx.l23 = true := by decide
set_option maxRecDepth 100000 in
set_option maxHeartbeats 4000000 in
theorem least23_any (w : World) : Calls Tryd.prog 20 #[] w fun e w' => ∃ a, e = .returned (mV Mx.l23 a) ∧ MIn w' Mx.l23 a ∧ Below w.heap.size w w' := by
  go_enter Tryd.func20, Tryd.ntmps20
  go_wp2
  have hs : ∀ (w : World) o, (w.alloc o).heap.size = w.heap.size + 1 := fun w o => by simp
  refine bodyPost_ret (v := mV Mx.l23 ⟨some ⟨w.heap.size + 1, 0, none⟩, 1, some ⟨w.heap.size + 1 + 1, 0, none⟩, 1, some ⟨w.heap.size + 1 + 1 + 1, 0, none⟩, 1⟩) (by simp [results, Tryd.results20, go_sem, mV, mCs, Mx.l23]) rfl ⟨_, rfl, ⟨?_, ?_, ?_⟩, ((((Below.refl _ _).alloc (Nat.le_refl _) _).alloc (by simp) _).alloc (by simp; omega) _).alloc (by simp; omega) _⟩
  · have := fun o1 => Mb.ol_lit 3 1 w.heap.size (w.alloc o1) 1 [.int .i64 0] rfl (by simp) (by decide)
    simp only [hs] at this
    exact (((this _).on ((Below.refl _ _).alloc (Nat.le_refl _) _)).on ((Below.refl _ _).alloc (Nat.le_refl _) _)).sl.li
  · have := fun o1 o2 => Mb.ol_lit 60 3 w.heap.size ((w.alloc o1).alloc o2) 1 [.int .u32 99, .int .i64 0, .bool false] rfl (by simp; omega) (by decide)
    simp only [hs] at this
    exact ((this _ _).on ((Below.refl _ _).alloc (Nat.le_refl _) _)).sl.li
  · have := fun o1 o2 o3 => Mb.ol_lit 58 6 w.heap.size (((w.alloc o1).alloc o2).alloc o3) 1 [.int .i64 1, .int .i64 40, .int .i64 80, .int .i64 0, .int .i64 1, .int .i64 0] rfl (by simp; omega) (by decide)
    simp only [hs] at this
    exact (this _ _ _).sl.li
namespace Q23
def P : List Yq.Tr := [⟨1, 40, 0, 1, 0, 42⟩, ⟨4, 400, 0, 1, 0, 0⟩, ⟨4, 438, 0, 1, 1, 0⟩, ⟨5, 514, 0, 1, 0, 0⟩]
theorem p_eq : Yq.plan Mx.l23 0 = P := by decide +kernel
theorem k0 : mk Mx.l23 0 = ⟨P, 0, -1, none⟩ := by unfold mk; rw [p_eq]
theorem k1 : begin_ ⟨P, 0, -1, none⟩ 0 = ⟨P, 0, 0, none⟩ := rfl
theorem k2 : told ⟨P, 0, 0, none⟩ 39 = [] ∧ now ⟨P, 0, 0, none⟩ 39 = ⟨P, 0, 39, none⟩ := by
  have e : Yq.due P 0 0 39 = [] := by decide +kernel
  exact ⟨(told_hi (by decide)).trans e, by rw [now_hi (by decide)]; show (⟨P, 0, 39, lastO none (Yq.due P 0 0 39)⟩ : St) = _; rw [e]; rfl⟩
theorem k3 : told ⟨P, 0, 39, none⟩ 41 = [⟨1, 40, 0, 1, 0, 42⟩] ∧ now ⟨P, 0, 39, none⟩ 41 = ⟨P, 0, 41, some ⟨1, 40, 0, 1, 0, 42⟩⟩ := by
  have e : Yq.due P 0 39 41 = [⟨1, 40, 0, 1, 0, 42⟩] := by decide +kernel
  exact ⟨(told_hi (by decide)).trans e, by rw [now_hi (by decide)]; show (⟨P, 0, 41, lastO none (Yq.due P 0 39 41)⟩ : St) = _; rw [e]; rfl⟩
theorem k4 : close ⟨P, 0, 41, some ⟨1, 40, 0, 1, 0, 42⟩⟩ = ⟨P, 0, 41, none⟩ := rfl
theorem k5 : told ⟨P, 0, 41, none⟩ 41 = [] ∧ now ⟨P, 0, 41, none⟩ 41 = ⟨P, 0, 41, none⟩ := by
  have e : Yq.due P 0 41 41 = [] := by decide +kernel
  exact ⟨(told_hi (by decide)).trans e, by rw [now_hi (by decide)]; show (⟨P, 0, 41, lastO none (Yq.due P 0 41 41)⟩ : St) = _; rw [e]; rfl⟩
theorem k6 : (told ⟨P, 0, 41, none⟩ 5000).length = 3 := by
  have e : (Yq.due P 0 41 5000).length = 3 := by decide +kernel
  rw [told_hi (by decide)]
  exact e
theorem o1 : over ⟨P, 0, 41, some ⟨1, 40, 0, 1, 0, 42⟩⟩ 42 = false := by decide
theorem o2 : over ⟨P, 0, 41, some ⟨1, 40, 0, 1, 0, 42⟩⟩ 43 = true := by decide
end Q23
set_option maxRecDepth 100000 in
set_option maxHeartbeats 40000000 in
theorem known23_any {Q : World → Prop} {At : Oq.Rs → Ob.A Q23.St} (hQ : ∀ w w', Q w → Below w.heap.size w w' → Q w') (S : SchedSpec Q At) (W : World) (hW : Q W) : Calls Tryd.prog 7 #[] W fun e w' => e = .returned (.bool true) ∧ Below W.heap.size W w' := by
  have HQ : Hid (∀ w, Below W.heap.size W w → Q w) := fun w hb => hQ W w hW hb
  have HI : Hid (∀ R, Ob.Is (At R)) := S.is
  have HS : Hid (SchedSpec Q At) := S
  clear hQ hW S
  go_enter Tryd.func7, Tryd.ntmps7
  go_wp2_with fail
  refine (least23_any W).mono ?_
  rintro e w1 ⟨a, rfl, hO, hb⟩
  have HM : Hid (MIn w1 Mx.l23 a) := hO
  have HB : Hid (Below W.heap.size W w1) := hb
  clear hO hb
  go_wp2_with fail
  have hnew := HS.out.new w1 w1 Mx.l23 a 0 (HQ.out _ HB.out) (Below.refl _ _) HM.out (Mx.small_is l23_is) (Mx.wf_is l23_is) (by decide)
  rw [Q23.k0] at hnew
  refine (Oq.O1.makeR [] (fun x hx => by cases hx) hnew HB.out).mono ?_
  rintro e w2 ⟨R, p, rfl, hq, _⟩
  rw [List.append_nil] at hq
  have HO : Hid (Oq.O1 (At R) W w2 p ⟨Q23.P, 0, -1, none⟩ R) := hq
  clear hq hnew HM HB
  go_wp2_with fail
  refine (HO.out.turn (fun F hF => HS.out.begin_ R _ p F _ 0 (HQ.out _ HO.out.bel) HO.out.rows (by decide) hF)).mono ?_
  rintro e w3 ⟨rfl, hq⟩
  rw [Q23.k1] at hq
  replace HO : Hid (Oq.O1 (At R) W w3 p ⟨Q23.P, 0, 0, none⟩ R) := hq
  clear hq
  go_wp2_with fail
  have hnow := fun F (hF : At R w3 p F ⟨Q23.P, 0, 0, none⟩) => HS.out.now R _ p F _ 39 (HQ.out _ HO.out.bel) HO.out.rows (by decide) hF
  rw [Q23.k2.1, Q23.k2.2] at hnow
  refine (HO.out.turnL hnow).mono ?_
  rintro e w4 ⟨a1, c1, R1, rfl, hl1, _, hq⟩
  have HO1 : Hid (Oq.O1 (At R) W w4 p ⟨Q23.P, 0, 39, none⟩ (R1 ++ R)) := hq
  clear hq hnow HO hl1
  go_wp2_with fail
  have hnow := fun F (hF : At R w4 p F ⟨Q23.P, 0, 39, none⟩) => HS.out.now R _ p F _ 41 (HQ.out _ HO1.out.bel) (HO1.out.rows.more (fun x hx => List.mem_append_right _ hx)) (by decide) hF
  rw [Q23.k3.1, Q23.k3.2] at hnow
  refine (HO1.out.turnL hnow).mono ?_
  rintro e w5 ⟨a2, c2, R2, rfl, hl2, _, hq⟩
  have HL2 : Hid (Oq.Lst R2 a2 c2 1 ([⟨1, 40, 0, 1, 0, 42⟩].flatMap tC)) := hl2
  have HO2 : Hid (Oq.O1 (At R) W w5 p ⟨Q23.P, 0, 41, some ⟨1, 40, 0, 1, 0, 42⟩⟩ (R2 ++ (R1 ++ R))) := hq
  clear hq hnow HO1 hl2
  go_wp2_with fail
  have hlk := fun F (hF : At R w5 p F ⟨Q23.P, 0, 41, some ⟨1, 40, 0, 1, 0, 42⟩⟩) => HS.out.open_ R _ p F _ (HQ.out _ HO2.out.bel) (HO2.out.rows.more (fun x hx => List.mem_append_right _ (List.mem_append_right _ hx))) hF
  refine (HO2.out.look (HI.out R) hlk).mono ?_
  rintro e w6 ⟨rfl, hq⟩
  have HO3 : Hid (Oq.O1 (At R) W (w6.alloc (.cells #[.int .i64 1, .int .i64 40, .int .i64 0, .int .i64 1, .int .i64 0, .int .i64 42] 36)) p ⟨Q23.P, 0, 41, some ⟨1, 40, 0, 1, 0, 42⟩⟩ ((w6.heap.size, .cells #[.int .i64 1, .int .i64 40, .int .i64 0, .int .i64 1, .int .i64 0, .int .i64 42] 36) :: (R2 ++ (R1 ++ R)))) := Oq.O1.al (HI.out R) hq _
  clear hq hlk HO2
  dsimp only [opV, trV, Option.getD_some, Option.isSome_some]
  go_upto_region 8 with fail
  generalize w6.alloc (.cells #[.int .i64 1, .int .i64 40, .int .i64 0, .int .i64 1, .int .i64 0, .int .i64 42] 36) = w7 at HO3 ⊢
  generalize w6.heap.size = g1 at HO3 ⊢
  go_wp2_with fail
  have hlk := fun F (hF : At R w7 p F ⟨Q23.P, 0, 41, some ⟨1, 40, 0, 1, 0, 42⟩⟩) => HS.out.over R _ p F _ 42 (HQ.out _ HO3.out.bel) (HO3.out.rows.more (fun x hx => List.mem_cons_of_mem _ (List.mem_append_right _ (List.mem_append_right _ hx)))) (by decide) hF
  rw [Q23.o1] at hlk
  refine (HO3.out.look (HI.out R) hlk).mono ?_
  rintro e w8 ⟨rfl, hq⟩
  replace HO3 : Hid (Oq.O1 (At R) W w8 p ⟨Q23.P, 0, 41, some ⟨1, 40, 0, 1, 0, 42⟩⟩ ((g1, .cells #[.int .i64 1, .int .i64 40, .int .i64 0, .int .i64 1, .int .i64 0, .int .i64 42] 36) :: (R2 ++ (R1 ++ R)))) := hq
  clear hq hlk
  go_wp2_with fail
  have hlk := fun F (hF : At R w8 p F ⟨Q23.P, 0, 41, some ⟨1, 40, 0, 1, 0, 42⟩⟩) => HS.out.over R _ p F _ 43 (HQ.out _ HO3.out.bel) (HO3.out.rows.more (fun x hx => List.mem_cons_of_mem _ (List.mem_append_right _ (List.mem_append_right _ hx)))) (by decide) hF
  rw [Q23.o2] at hlk
  refine (HO3.out.look (HI.out R) hlk).mono ?_
  rintro e w9 ⟨rfl, hq⟩
  replace HO3 : Hid (Oq.O1 (At R) W w9 p ⟨Q23.P, 0, 41, some ⟨1, 40, 0, 1, 0, 42⟩⟩ ((g1, .cells #[.int .i64 1, .int .i64 40, .int .i64 0, .int .i64 1, .int .i64 0, .int .i64 42] 36) :: (R2 ++ (R1 ++ R)))) := hq
  clear hq hlk
  go_wp2_with fail
  have hlk := fun F (hF : At R w9 p F ⟨Q23.P, 0, 41, some ⟨1, 40, 0, 1, 0, 42⟩⟩) => HS.out.close R _ p F _ (HQ.out _ HO3.out.bel) (HO3.out.rows.more (fun x hx => List.mem_cons_of_mem _ (List.mem_append_right _ (List.mem_append_right _ hx)))) hF
  rw [Q23.k4] at hlk
  refine (HO3.out.turn hlk).mono ?_
  rintro e w10 ⟨rfl, hq⟩
  have HO4 : Hid (Oq.O1 (At R) W w10 p ⟨Q23.P, 0, 41, none⟩ ((g1, .cells #[.int .i64 1, .int .i64 40, .int .i64 0, .int .i64 1, .int .i64 0, .int .i64 42] 36) :: (R2 ++ (R1 ++ R)))) := hq
  clear hq hlk HO3
  go_wp2_with fail
  have hlk := fun F (hF : At R w10 p F ⟨Q23.P, 0, 41, none⟩) => HS.out.open_ R _ p F _ (HQ.out _ HO4.out.bel) (HO4.out.rows.more (fun x hx => List.mem_cons_of_mem _ (List.mem_append_right _ (List.mem_append_right _ hx)))) hF
  refine (HO4.out.look (HI.out R) hlk).mono ?_
  rintro e w11 ⟨rfl, hq⟩
  have HO5 : Hid (Oq.O1 (At R) W (w11.alloc (.cells #[.int .i64 0, .int .i64 0, .int .i64 0, .int .i64 0, .int .i64 0, .int .i64 0] 36)) p ⟨Q23.P, 0, 41, none⟩ ((g1, .cells #[.int .i64 1, .int .i64 40, .int .i64 0, .int .i64 1, .int .i64 0, .int .i64 42] 36) :: (R2 ++ (R1 ++ R)))) := (Oq.O1.al (HI.out R) hq _).less (fun x hx => List.mem_cons_of_mem _ hx)
  clear hq hlk HO4
  dsimp only [opV, trV, Option.getD_none, Option.isSome_none, Q23.tz]
  go_upto_region 11 with fail
  generalize w11.alloc (.cells #[.int .i64 0, .int .i64 0, .int .i64 0, .int .i64 0, .int .i64 0, .int .i64 0] 36) = w12 at HO5 ⊢
  generalize w11.heap.size = g2 at ⊢
  obtain ⟨g0, o0, b0, ha2, hm2, hc2⟩ : ∃ g o b, a2 = some ⟨g, o, none⟩ ∧ (g, b) ∈ R2 ∧ ∀ w : World, w.heap[g]? = some b → ∀ k v, ([⟨1, 40, 0, 1, 0, 42⟩].flatMap tC)[k]? = some v → w.cell? ⟨g, o + k, none⟩ = some v := by
    rcases HL2.out.2.2 with h | h
    · exact absurd h (by decide)
    · exact h
  subst ha2
  have HC : Hid (∀ w s K, Oq.O1 (At R) W w p s (K ++ ((g1, .cells #[.int .i64 1, .int .i64 40, .int .i64 0, .int .i64 1, .int .i64 0, .int .i64 42] 36) :: (R2 ++ (R1 ++ R)))) → (w.cell? ⟨g0, o0, none⟩ = some (.int .i64 1) ∧ w.cell? ⟨g0, o0 + 1, none⟩ = some (.int .i64 40) ∧ w.cell? ⟨g0, o0 + 2, none⟩ = some (.int .i64 0) ∧ w.cell? ⟨g0, o0 + 3, none⟩ = some (.int .i64 1) ∧ w.cell? ⟨g0, o0 + 4, none⟩ = some (.int .i64 0) ∧ w.cell? ⟨g0, o0 + 5, none⟩ = some (.int .i64 42)) ∧ RowT 36 w g1 #[.int .i64 1, .int .i64 40, .int .i64 0, .int .i64 1, .int .i64 0, .int .i64 42]) := fun w s K h => by
    have hr := h.rows (g0, b0) (List.mem_append_right _ (List.mem_cons_of_mem _ (List.mem_append_left _ hm2)))
    have hx := hc2 w hr
    exact ⟨⟨hx 0 _ rfl, hx 1 _ rfl, hx 2 _ rfl, hx 3 _ rfl, hx 4 _ rfl, hx 5 _ rfl⟩, h.rows (g1, .cells #[.int .i64 1, .int .i64 40, .int .i64 0, .int .i64 1, .int .i64 0, .int .i64 42] 36) (List.mem_append_right _ (List.mem_cons_self ..))⟩
  clear hm2 hc2 HL2
  have HO6 : Hid (∃ K, Oq.O1 (At R) W w12.drew p ⟨Q23.P, 0, 41, none⟩ (K ++ ((g1, .cells #[.int .i64 1, .int .i64 40, .int .i64 0, .int .i64 1, .int .i64 0, .int .i64 42] 36) :: (R2 ++ (R1 ++ R))))) := ⟨[], HO5.out.on (HI.out R) (Below.refl _ _).drew⟩
  clear HO5
  refine wp_region_held_drew (S := fun w' => ∃ s K, Oq.O1 (At R) W w' p s (K ++ ((g1, .cells #[.int .i64 1, .int .i64 40, .int .i64 0, .int .i64 1, .int .i64 0, .int .i64 42] 36) :: (R2 ++ (R1 ++ R))))) (by kernel_rfl) ⟨_, HO6.out⟩ (fun hHeld => ?_)
  refine Hl.takeL (i := 0) (d := 36) (v := ?_) rfl (by kernel_rfl) (by kernel_rfl) (by kernel_rfl) (fun _ _ _ h => h) (by rfl) ?_ (by first | assumption | trivial) ?_
  rotate_left
  · intro w hSw; skip; go_simp; (try with_reducible rfl)
  simp only [Act.put, List.setIfInBounds_toArray, List.set_cons_zero, List.set_cons_succ]
  refine Hl.takeL (i := 1) (d := 37) (v := ?_) rfl (by kernel_rfl) (by kernel_rfl) (by kernel_rfl) (fun _ _ _ h => h) (by rfl) ?_ (by first | assumption | trivial) ?_
  rotate_left
  · intro w hSw; skip; go_simp; (try with_reducible rfl)
  simp only [Act.put, List.setIfInBounds_toArray, List.set_cons_zero, List.set_cons_succ]
  refine Hl.takeL (i := 2) (d := 38) (v := ?_) rfl (by kernel_rfl) (by kernel_rfl) (by kernel_rfl) (fun _ _ _ h => h) (by rfl) ?_ (by first | assumption | trivial) ?_
  rotate_left
  · intro w hSw; skip; go_simp; (try with_reducible rfl)
  simp only [Act.put, List.setIfInBounds_toArray, List.set_cons_zero, List.set_cons_succ]
  refine Hl.takeL (i := 3) (d := 39) (v := ?_) rfl (by kernel_rfl) (by kernel_rfl) (by kernel_rfl) (fun _ _ _ h => h) (by rfl) ?_ (by first | assumption | trivial) ?_
  rotate_left
  · intro w hSw; skip; go_simp; (try with_reducible rfl)
  simp only [Act.put, List.setIfInBounds_toArray, List.set_cons_zero, List.set_cons_succ]
  refine Hl.takeL (i := 4) (d := 40) (v := ?_) rfl (by kernel_rfl) (by kernel_rfl) (by kernel_rfl) (fun _ _ _ h => h) (by rfl) ?_ (by first | assumption | trivial) ?_
  rotate_left
  · intro w hSw; skip; go_simp; (try with_reducible rfl)
  simp only [Act.put, List.setIfInBounds_toArray, List.set_cons_zero, List.set_cons_succ]
  refine Hl.takeL (i := 5) (d := 41) (v := ?_) rfl (by kernel_rfl) (by kernel_rfl) (by kernel_rfl) (fun _ _ _ h => h) (by rfl) ?_ (by first | assumption | trivial) ?_
  rotate_left
  · intro w hSw; skip; go_simp; (try with_reducible rfl)
  simp only [Act.put, List.setIfInBounds_toArray, List.set_cons_zero, List.set_cons_succ]
  refine Hl.takeL (i := 6) (d := 42) (v := ?_) rfl (by kernel_rfl) (by kernel_rfl) (by kernel_rfl) (fun _ _ _ h => h) (by rfl) ?_ (by first | assumption | trivial) ?_
  rotate_left
  · intro w hSw; skip; go_simp; (try with_reducible rfl)
  simp only [Act.put, List.setIfInBounds_toArray, List.set_cons_zero, List.set_cons_succ]
  refine Hl.takeL (i := 7) (d := 43) (v := ?_) rfl (by kernel_rfl) (by kernel_rfl) (by kernel_rfl) (fun _ _ _ h => h) (by rfl) ?_ (by first | assumption | trivial) ?_
  rotate_left
  · intro w hSw; skip; go_simp; (try with_reducible rfl)
  simp only [Act.put, List.setIfInBounds_toArray, List.set_cons_zero, List.set_cons_succ]
  refine Hl.takeL (i := 8) (d := 44) (v := ?_) rfl (by kernel_rfl) (by kernel_rfl) (by kernel_rfl) (fun _ _ _ h => h) (by rfl) ?_ (by first | assumption | trivial) ?_
  rotate_left
  · intro w hSw; skip; go_simp; (try with_reducible rfl)
  simp only [Act.put, List.setIfInBounds_toArray, List.set_cons_zero, List.set_cons_succ]
  refine Hl.takeL (i := 9) (d := 45) (v := ?_) rfl (by kernel_rfl) (by kernel_rfl) (by kernel_rfl) (fun _ _ _ h => h) (by rfl) ?_ (by first | assumption | trivial) ?_
  rotate_left
  · intro w hSw; skip; go_simp; (try with_reducible rfl)
  simp only [Act.put, List.setIfInBounds_toArray, List.set_cons_zero, List.set_cons_succ]
  refine Hl.takeL (i := 10) (d := 46) (v := ?_) rfl (by kernel_rfl) (by kernel_rfl) (by kernel_rfl) (fun _ _ _ h => h) (by rfl) ?_ (by first | assumption | trivial) ?_
  rotate_left
  · intro w hSw; skip; go_simp; (try with_reducible rfl)
  simp only [Act.put, List.setIfInBounds_toArray, List.set_cons_zero, List.set_cons_succ]
  refine Hl.takeL (i := 11) (d := 47) (v := ?_) rfl (by kernel_rfl) (by kernel_rfl) (by kernel_rfl) (fun _ _ _ h => h) (by rfl) ?_ (by first | assumption | trivial) ?_
  rotate_left
  · intro w hSw; skip; go_simp; (try with_reducible rfl)
  simp only [Act.put, List.setIfInBounds_toArray, List.set_cons_zero, List.set_cons_succ]
  refine Hl.takeL (i := 12) (d := 48) (v := ?_) rfl (by kernel_rfl) (by kernel_rfl) (by kernel_rfl) (fun _ _ _ h => h) (by rfl) ?_ (by first | assumption | trivial) ?_
  rotate_left
  · intro w hSw; obtain ⟨s0, K, hK⟩ := hSw; obtain ⟨⟨z0, z1, z2, z3, z4, z5⟩, zr⟩ := HC.out _ _ K hK; have r0 := zr.c 0 _ rfl; have r1 := zr.c 1 _ rfl; have r2 := zr.c 2 _ rfl; have r3 := zr.c 3 _ rfl; have r4 := zr.c 4 _ rfl; have r5 := zr.c 5 _ rfl; clear hK zr; go_simp; (try with_reducible rfl)
  simp only [Act.put, List.setIfInBounds_toArray, List.set_cons_zero, List.set_cons_succ]
  refine Hl.takeL (i := 13) (d := 49) (v := ?_) rfl (by kernel_rfl) (by kernel_rfl) (by kernel_rfl) (fun _ _ _ h => h) (by rfl) ?_ (by first | assumption | trivial) ?_
  rotate_left
  · intro w hSw; skip; go_simp; (try with_reducible rfl)
  simp only [Act.put, List.setIfInBounds_toArray, List.set_cons_zero, List.set_cons_succ]
  refine Hl.takeL (i := 14) (d := 50) (v := ?_) rfl (by kernel_rfl) (by kernel_rfl) (by kernel_rfl) (fun _ _ _ h => h) (by rfl) ?_ (by first | assumption | trivial) ?_
  rotate_left
  · intro w hSw; skip; go_simp; (try with_reducible rfl)
  simp only [Act.put, List.setIfInBounds_toArray, List.set_cons_zero, List.set_cons_succ]
  refine Hl.takeL (i := 15) (d := 51) (v := ?_) rfl (by kernel_rfl) (by kernel_rfl) (by kernel_rfl) (fun _ _ _ h => h) (by rfl) ?_ (by first | assumption | trivial) ?_
  rotate_left
  · intro w hSw; skip; go_simp; (try with_reducible rfl)
  simp only [Act.put, List.setIfInBounds_toArray, List.set_cons_zero, List.set_cons_succ]
  refine Hl.takeL (i := 16) (d := 52) (v := ?_) rfl (by kernel_rfl) (by kernel_rfl) (by kernel_rfl) (fun _ _ _ h => h) (by rfl) ?_ (by first | assumption | trivial) ?_
  rotate_left
  · intro w hSw; skip; go_simp; (try with_reducible rfl)
  simp only [Act.put, List.setIfInBounds_toArray, List.set_cons_zero, List.set_cons_succ]
  refine Hl.takeL (i := 17) (d := 53) (v := ?_) rfl (by kernel_rfl) (by kernel_rfl) (by kernel_rfl) (fun _ _ _ h => h) (by rfl) ?_ (by first | assumption | trivial) ?_
  rotate_left
  · intro w hSw; skip; go_simp; (try with_reducible rfl)
  simp only [Act.put, List.setIfInBounds_toArray, List.set_cons_zero, List.set_cons_succ]
  refine Hl.takeL (i := 18) (d := 54) (v := ?_) rfl (by kernel_rfl) (by kernel_rfl) (by kernel_rfl) (fun _ _ _ h => h) (by rfl) ?_ (by first | assumption | trivial) ?_
  rotate_left
  · intro w hSw; skip; go_simp; (try with_reducible rfl)
  simp only [Act.put, List.setIfInBounds_toArray, List.set_cons_zero, List.set_cons_succ]
  refine Hl.takeL (i := 19) (d := 55) (v := ?_) rfl (by kernel_rfl) (by kernel_rfl) (by kernel_rfl) (fun _ _ _ h => h) (by rfl) ?_ (by first | assumption | trivial) ?_
  rotate_left
  · intro w hSw; obtain ⟨s0, K, hK⟩ := hSw; obtain ⟨⟨z0, z1, z2, z3, z4, z5⟩, zr⟩ := HC.out _ _ K hK; have r0 := zr.c 0 _ rfl; have r1 := zr.c 1 _ rfl; have r2 := zr.c 2 _ rfl; have r3 := zr.c 3 _ rfl; have r4 := zr.c 4 _ rfl; have r5 := zr.c 5 _ rfl; clear hK zr; go_simp; (try with_reducible rfl)
  simp only [Act.put, List.setIfInBounds_toArray, List.set_cons_zero, List.set_cons_succ]
  refine Hl.takeL (i := 20) (d := 56) (v := ?_) rfl (by kernel_rfl) (by kernel_rfl) (by kernel_rfl) (fun _ _ _ h => h) (by rfl) ?_ (by first | assumption | trivial) ?_
  rotate_left
  · intro w hSw; skip; go_simp; (try with_reducible rfl)
  simp only [Act.put, List.setIfInBounds_toArray, List.set_cons_zero, List.set_cons_succ]
  refine Hl.takeL (i := 21) (d := 57) (v := ?_) rfl (by kernel_rfl) (by kernel_rfl) (by kernel_rfl) (fun _ _ _ h => h) (by rfl) ?_ (by first | assumption | trivial) ?_
  rotate_left
  · intro w hSw; skip; go_simp; (try with_reducible rfl)
  simp only [Act.put, List.setIfInBounds_toArray, List.set_cons_zero, List.set_cons_succ]
  refine Hl.takeL (i := 22) (d := 58) (v := ?_) rfl (by kernel_rfl) (by kernel_rfl) (by kernel_rfl) (fun _ _ _ h => h) (by rfl) ?_ (by first | assumption | trivial) ?_
  rotate_left
  · intro w hSw; obtain ⟨s0, K, hK⟩ := hSw; obtain ⟨⟨z0, z1, z2, z3, z4, z5⟩, zr⟩ := HC.out _ _ K hK; have r0 := zr.c 0 _ rfl; have r1 := zr.c 1 _ rfl; have r2 := zr.c 2 _ rfl; have r3 := zr.c 3 _ rfl; have r4 := zr.c 4 _ rfl; have r5 := zr.c 5 _ rfl; clear hK zr; go_simp; (try with_reducible rfl)
  simp only [Act.put, List.setIfInBounds_toArray, List.set_cons_zero, List.set_cons_succ]
  refine Hl.takeL (i := 23) (d := 59) (v := ?_) rfl (by kernel_rfl) (by kernel_rfl) (by kernel_rfl) (fun _ _ _ h => h) (by rfl) ?_ (by first | assumption | trivial) ?_
  rotate_left
  · intro w hSw; skip; go_simp; (try with_reducible rfl)
  simp only [Act.put, List.setIfInBounds_toArray, List.set_cons_zero, List.set_cons_succ]
  refine Hl.takeL (i := 24) (d := 60) (v := ?_) rfl (by kernel_rfl) (by kernel_rfl) (by kernel_rfl) (fun _ _ _ h => h) (by rfl) ?_ (by first | assumption | trivial) ?_
  rotate_left
  · intro w hSw; skip; go_simp; (try with_reducible rfl)
  simp only [Act.put, List.setIfInBounds_toArray, List.set_cons_zero, List.set_cons_succ]
  refine Hl.takeL (i := 25) (d := 61) (v := ?_) rfl (by kernel_rfl) (by kernel_rfl) (by kernel_rfl) (fun _ _ _ h => h) (by rfl) ?_ (by first | assumption | trivial) ?_
  rotate_left
  · intro w hSw; skip; go_simp; (try with_reducible rfl)
  simp only [Act.put, List.setIfInBounds_toArray, List.set_cons_zero, List.set_cons_succ]
  refine Hl.takeL (i := 26) (d := 62) (v := ?_) rfl (by kernel_rfl) (by kernel_rfl) (by kernel_rfl) (fun _ _ _ h => h) (by rfl) ?_ (by first | assumption | trivial) ?_
  rotate_left
  · intro w hSw; skip; go_simp; (try with_reducible rfl)
  simp only [Act.put, List.setIfInBounds_toArray, List.set_cons_zero, List.set_cons_succ]
  refine Hl.takeL (i := 27) (d := 63) (v := ?_) rfl (by kernel_rfl) (by kernel_rfl) (by kernel_rfl) (fun _ _ _ h => h) (by rfl) ?_ (by first | assumption | trivial) ?_
  rotate_left
  · intro w hSw; skip; go_simp; (try with_reducible rfl)
  simp only [Act.put, List.setIfInBounds_toArray, List.set_cons_zero, List.set_cons_succ]
  refine Hl.takeL (i := 28) (d := 64) (v := ?_) rfl (by kernel_rfl) (by kernel_rfl) (by kernel_rfl) (fun _ _ _ h => h) (by rfl) ?_ (by first | assumption | trivial) ?_
  rotate_left
  · intro w hSw; skip; go_simp; (try with_reducible rfl)
  simp only [Act.put, List.setIfInBounds_toArray, List.set_cons_zero, List.set_cons_succ]
  refine Hl.takeL (i := 29) (d := 65) (v := ?_) rfl (by kernel_rfl) (by kernel_rfl) (by kernel_rfl) (fun _ _ _ h => h) (by rfl) ?_ (by first | assumption | trivial) ?_
  rotate_left
  · intro w hSw; skip; go_simp; (try with_reducible rfl)
  simp only [Act.put, List.setIfInBounds_toArray, List.set_cons_zero, List.set_cons_succ]
  refine Hl.takeL (i := 30) (d := 66) (v := ?_) rfl (by kernel_rfl) (by kernel_rfl) (by kernel_rfl) (fun _ _ _ h => h) (by rfl) ?_ (by first | assumption | trivial) ?_
  rotate_left
  · intro w hSw; skip; go_simp; (try with_reducible rfl)
  simp only [Act.put, List.setIfInBounds_toArray, List.set_cons_zero, List.set_cons_succ]
  refine Hl.takeL (i := 31) (d := 67) (v := ?_) rfl (by kernel_rfl) (by kernel_rfl) (by kernel_rfl) (fun _ _ _ h => h) (by rfl) ?_ (by first | assumption | trivial) ?_
  rotate_left
  · intro w hSw; skip; go_simp; (try with_reducible rfl)
  simp only [Act.put, List.setIfInBounds_toArray, List.set_cons_zero, List.set_cons_succ]
  refine Hl.takeL (i := 32) (d := 68) (v := ?_) rfl (by kernel_rfl) (by kernel_rfl) (by kernel_rfl) (fun _ _ _ h => h) (by rfl) ?_ (by first | assumption | trivial) ?_
  rotate_left
  · intro w hSw; skip; go_simp; (try with_reducible rfl)
  simp only [Act.put, List.setIfInBounds_toArray, List.set_cons_zero, List.set_cons_succ]
  refine Hl.takeL (i := 33) (d := 69) (v := ?_) rfl (by kernel_rfl) (by kernel_rfl) (by kernel_rfl) (fun _ _ _ h => h) (by rfl) ?_ (by first | assumption | trivial) ?_
  rotate_left
  · intro w hSw; skip; go_simp; (try with_reducible rfl)
  simp only [Act.put, List.setIfInBounds_toArray, List.set_cons_zero, List.set_cons_succ]
  refine Hl.takeL (i := 34) (d := 70) (v := ?_) rfl (by kernel_rfl) (by kernel_rfl) (by kernel_rfl) (fun _ _ _ h => h) (by rfl) ?_ (by first | assumption | trivial) ?_
  rotate_left
  · intro w hSw; skip; go_simp; (try with_reducible rfl)
  simp only [Act.put, List.setIfInBounds_toArray, List.set_cons_zero, List.set_cons_succ]
  refine Hl.takeL (i := 35) (d := 71) (v := ?_) rfl (by kernel_rfl) (by kernel_rfl) (by kernel_rfl) (fun _ _ _ h => h) (by rfl) ?_ (by first | assumption | trivial) ?_
  rotate_left
  · intro w hSw; skip; go_simp; (try with_reducible rfl)
  simp only [Act.put, List.setIfInBounds_toArray, List.set_cons_zero, List.set_cons_succ]
  refine Hl.takeL (i := 36) (d := 72) (v := ?_) rfl (by kernel_rfl) (by kernel_rfl) (by kernel_rfl) (fun _ _ _ h => h) (by rfl) ?_ (by first | assumption | trivial) ?_
  rotate_left
  · intro w hSw; skip; go_simp; (try with_reducible rfl)
  simp only [Act.put, List.setIfInBounds_toArray, List.set_cons_zero, List.set_cons_succ]
  refine Hl.takeL (i := 37) (d := 73) (v := ?_) rfl (by kernel_rfl) (by kernel_rfl) (by kernel_rfl) (fun _ _ _ h => h) (by rfl) ?_ (by first | assumption | trivial) ?_
  rotate_left
  · intro w hSw; skip; go_simp; (try with_reducible rfl)
  simp only [Act.put, List.setIfInBounds_toArray, List.set_cons_zero, List.set_cons_succ]
  obtain ⟨K38, hK38⟩ := HO6.out
  have HK38 : Hid (Oq.O1 (At R) W w12.drew p ⟨Q23.P, 0, 41, none⟩ (K38 ++ ((g1, .cells #[.int .i64 1, .int .i64 40, .int .i64 0, .int .i64 1, .int .i64 0, .int .i64 42] 36) :: (R2 ++ (R1 ++ R))))) := hK38
  clear hK38
  refine Hl.consL (i := 38) rfl (by kernel_rfl) (fun K' hK' => ?_)
  go_simp
  go_at_call 15
  have hnow := fun F (hF : At R w12.drew p F ⟨Q23.P, 0, 41, none⟩) => HS.out.now R _ p F _ 41 (HQ.out _ HK38.out.bel) (HK38.out.rows.more (fun x hx => List.mem_append_right _ (List.mem_cons_of_mem _ (List.mem_append_right _ (List.mem_append_right _ hx))))) (by decide) hF
  rw [Q23.k5.1, Q23.k5.2] at hnow
  refine (HK38.out.turnL hnow).mono ?_
  rintro e w13 ⟨a3, c3, R3, rfl, hl3, _, hq⟩
  have HO7 : Hid (∃ K, Oq.O1 (At R) W w13 p ⟨Q23.P, 0, 41, none⟩ (K ++ ((g1, .cells #[.int .i64 1, .int .i64 40, .int .i64 0, .int .i64 1, .int .i64 0, .int .i64 42] 36) :: (R2 ++ (R1 ++ R))))) := ⟨R3 ++ K38, by rw [List.append_assoc]; exact hq⟩
  clear hq hl3 HK38 hnow
  simp only [List.length_nil]
  go_simp
  refine hK'.out _ _ ⟨_, HO7.out⟩ (fun hHeld => ?_)
  clear hK' K' HO6
  refine Hl.takeL (i := 39) (d := 75) (v := ?_) rfl (by kernel_rfl) (by kernel_rfl) (by kernel_rfl) (fun _ _ _ h => h) (by rfl) ?_ (by first | assumption | trivial) ?_
  rotate_left
  · intro w hSw; skip; go_simp; (try with_reducible rfl)
  simp only [Act.put, List.setIfInBounds_toArray, List.set_cons_zero, List.set_cons_succ]
  refine Hl.takeL (i := 40) (d := 76) (v := ?_) rfl (by kernel_rfl) (by kernel_rfl) (by kernel_rfl) (fun _ _ _ h => h) (by rfl) ?_ (by first | assumption | trivial) ?_
  rotate_left
  · intro w hSw; skip; go_simp; (try with_reducible rfl)
  simp only [Act.put, List.setIfInBounds_toArray, List.set_cons_zero, List.set_cons_succ]
  refine Hl.takeL (i := 41) (d := 77) (v := ?_) rfl (by kernel_rfl) (by kernel_rfl) (by kernel_rfl) (fun _ _ _ h => h) (by rfl) ?_ (by first | assumption | trivial) ?_
  rotate_left
  · intro w hSw; skip; go_simp; (try with_reducible rfl)
  simp only [Act.put, List.setIfInBounds_toArray, List.set_cons_zero, List.set_cons_succ]
  refine Hl.takeL (i := 42) (d := 78) (v := ?_) rfl (by kernel_rfl) (by kernel_rfl) (by kernel_rfl) (fun _ _ _ h => h) (by rfl) ?_ (by first | assumption | trivial) ?_
  rotate_left
  · intro w hSw; skip; go_simp; (try with_reducible rfl)
  simp only [Act.put, List.setIfInBounds_toArray, List.set_cons_zero, List.set_cons_succ]
  refine Hl.takeL (i := 43) (d := 79) (v := ?_) rfl (by kernel_rfl) (by kernel_rfl) (by kernel_rfl) (fun _ _ _ h => h) (by rfl) ?_ (by first | assumption | trivial) ?_
  rotate_left
  · intro w hSw; skip; go_simp; (try with_reducible rfl)
  simp only [Act.put, List.setIfInBounds_toArray, List.set_cons_zero, List.set_cons_succ]
  obtain ⟨K44, hK44⟩ := HO7.out
  have HK44 : Hid (Oq.O1 (At R) W w13 p ⟨Q23.P, 0, 41, none⟩ (K44 ++ ((g1, .cells #[.int .i64 1, .int .i64 40, .int .i64 0, .int .i64 1, .int .i64 0, .int .i64 42] 36) :: (R2 ++ (R1 ++ R))))) := hK44
  clear hK44
  refine Hl.consL (i := 44) rfl (by kernel_rfl) (fun K' hK' => ?_)
  go_simp
  go_at_call 15
  have hnow := fun F (hF : At R w13 p F ⟨Q23.P, 0, 41, none⟩) => HS.out.now R _ p F _ 5000 (HQ.out _ HK44.out.bel) (HK44.out.rows.more (fun x hx => List.mem_append_right _ (List.mem_cons_of_mem _ (List.mem_append_right _ (List.mem_append_right _ hx))))) (by decide) hF
  rw [Q23.k6] at hnow
  obtain ⟨K9, hK9⟩ := HO7.out
  refine (HK44.out.turnL hnow).mono ?_
  rintro e w14 ⟨a4, c4, R4, rfl, hl4, _, hq⟩
  have HB : Hid (Below W.heap.size W w14) := hq.bel
  have HO8 : Hid (∃ s K, Oq.O1 (At R) W w14 p s (K ++ ((g1, .cells #[.int .i64 1, .int .i64 40, .int .i64 0, .int .i64 1, .int .i64 0, .int .i64 42] 36) :: (R2 ++ (R1 ++ R))))) := ⟨_, R4 ++ K44, by rw [List.append_assoc]; exact hq⟩
  clear hq hl4 HK44 hnow hK9
  go_simp
  refine hK'.out _ _ HO8.out (fun hHeld => ?_)
  clear hK' K' HO7
  refine Hl.takeL (i := 45) (d := 81) (v := ?_) rfl (by kernel_rfl) (by kernel_rfl) (by kernel_rfl) (fun _ _ _ h => h) (by rfl) ?_ (by first | assumption | trivial) ?_
  rotate_left
  · intro w hSw; skip; go_simp; (try with_reducible rfl)
  simp only [Act.put, List.setIfInBounds_toArray, List.set_cons_zero, List.set_cons_succ]
  refine Hl.takeL (i := 46) (d := 82) (v := ?_) rfl (by kernel_rfl) (by kernel_rfl) (by kernel_rfl) (fun _ _ _ h => h) (by rfl) ?_ (by first | assumption | trivial) ?_
  rotate_left
  · intro w hSw; skip; go_simp; (try with_reducible rfl)
  simp only [Act.put, List.setIfInBounds_toArray, List.set_cons_zero, List.set_cons_succ]
  refine Hl.takeL (i := 47) (d := 83) (v := ?_) rfl (by kernel_rfl) (by kernel_rfl) (by kernel_rfl) (fun _ _ _ h => h) (by rfl) ?_ (by first | assumption | trivial) ?_
  rotate_left
  · intro w hSw; skip; go_simp; (try with_reducible rfl)
  simp only [Act.put, List.setIfInBounds_toArray, List.set_cons_zero, List.set_cons_succ]
  refine Hl.takeL (i := 48) (d := 0) (v := ?_) rfl (by kernel_rfl) (by kernel_rfl) (by kernel_rfl) (fun _ _ _ h => h) (by rfl) ?_ (by first | assumption | trivial) ?_
  rotate_left
  · intro w hSw; skip; go_simp; (try with_reducible rfl)
  simp only [Act.put, List.setIfInBounds_toArray, List.set_cons_zero]
  refine wpAnyH_done (by kernel_rfl) ?_ _
  go_wp2
  go_ret
  exact ⟨rfl, HB.out⟩
end Go.Proofs.YtnbfnipdiffphaaDoor
