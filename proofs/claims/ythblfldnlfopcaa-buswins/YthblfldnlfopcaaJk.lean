/- Law 6's own 'known' over package bus. -/
import Derived.Test.YthblfldnlfopcaaJ1
namespace Go.Proofs.Ythblfldnlfopcaa
open Go.RowKit
variable {At : World → Nat → (Nat → Prop) → List Bool → Bool → Prop}
set_option maxRecDepth 100000 in
set_option maxHeartbeats 4000000 in
theorem known6_any (S : BusSpec At) (W : World) : Calls Try.prog 7 #[] W fun e w' => e = .returned (.bool true) ∧ Below W.heap.size W w' := by
  have HN : Hid (∀ w, W.heap.size ≤ w.heap.size → Calls Try.prog 8 #[] w fun e w' => ∃ p, e = .returned (bptr p) ∧ Own At W.heap.size w' p [] false ∧ Below w.heap.size w w') := fun w hB => own_new S _ w hB
  have H1 : Hid (∀ w p, Own At W.heap.size w p [] false → W.heap.size ≤ w.heap.size → Calls Try.prog 11 #[bptr p, .string ⟨#[49, 48, 49]⟩] w fun e w' => e = .returned (.int .u8 48) ∧ Own At W.heap.size w' p [false] false ∧ Below W.heap.size w w') := fun w p h hB => own_step S ⟨#[49, 48, 49]⟩ h hB (by decide) (by decide)
  have H2 : Hid (∀ w p, Own At W.heap.size w p [false] false → W.heap.size ≤ w.heap.size → Calls Try.prog 11 #[bptr p, .string ⟨#[49, 49]⟩] w fun e w' => e = .returned (.int .u8 49) ∧ Own At W.heap.size w' p [false, true] false ∧ Below W.heap.size w w') := fun w p h hB => own_step S ⟨#[49, 49]⟩ h hB (by decide) (by decide)
  have H3 : Hid (∀ w p, Own At W.heap.size w p [false, true] false → W.heap.size ≤ w.heap.size → Calls Try.prog 11 #[bptr p, .string ⟨#[]⟩] w fun e w' => e = .returned (.int .u8 49) ∧ Own At W.heap.size w' p [false, true, true] false ∧ Below W.heap.size w w') := fun w p h hB => own_step S ⟨#[]⟩ h hB (by decide) (by decide)
  have H4 : Hid (∀ w p fl, Own At W.heap.size w p [false, true, true] fl → W.heap.size ≤ w.heap.size → Calls Try.prog 9 #[bptr p] w fun e w' => e = .returned (.tuple #[]) ∧ Own At W.heap.size w' p [false, true, true] true ∧ Below W.heap.size w w') := fun w p fl h hB => own_flip S h hB
  have H5 : Hid (∀ w p, Own At W.heap.size w p [false, true, true] true → W.heap.size ≤ w.heap.size → Calls Try.prog 11 #[bptr p, .string ⟨#[49]⟩] w fun e w' => e = .returned (.int .u8 48) ∧ Own At W.heap.size w' p [false, true, true, false] false ∧ Below W.heap.size w w') := fun w p h hB => own_step S ⟨#[49]⟩ h hB (by decide) (by decide)
  have H6 : Hid (∀ w p, Own At W.heap.size w p [false, true, true, false] false → W.heap.size ≤ w.heap.size → Calls Try.prog 11 #[bptr p, .string ⟨#[49]⟩] w fun e w' => e = .returned (.int .u8 49) ∧ Own At W.heap.size w' p [false, true, true, false, true] false ∧ Below W.heap.size w w') := fun w p h hB => own_step S ⟨#[49]⟩ h hB (by decide) (by decide)
  have H7 : Hid (∀ w p, Own At W.heap.size w p [false, true, true, false, true] false → W.heap.size ≤ w.heap.size → Calls Try.prog 13 #[bptr p] w fun e w' => e = .returned (.string ⟨#[48, 49, 49, 48, 49]⟩) ∧ Own At W.heap.size w' p [false, true, true, false, true] false ∧ Below W.heap.size w w') := fun w p h hB => own_trace S h hB (by decide)
  have H8 : Hid (∀ w p, Own At W.heap.size w p [false, true, true, false, true] false → W.heap.size ≤ w.heap.size → Calls Try.prog 12 #[bptr p] w fun e w' => e = .returned (.int .i64 5) ∧ Own At W.heap.size w' p [false, true, true, false, true] false ∧ Below W.heap.size w w') := fun w p h hB => own_len S h hB (by decide)
  go_enter Try.func7, Try.ntmps7
  go_wp2_with fail
  refine (HN.out _ (Nat.le_refl _)).mono ?_
  rintro e w1 ⟨p, rfl, O, hA0⟩
  have hA : Hid (Below W.heap.size W w1) := hA0
  have OB : Hid (Own At W.heap.size w1 p [] false) := O
  clear hA0 O HN
  go_wp2_with fail
  first | refine (H1.out _ _ OB.out hA.out.size).mono ?_ | refine (H1.out _ _ _ OB.out hA.out.size).mono ?_
  rintro e w' ⟨rfl, O', hb'⟩
  replace hA : Hid (Below W.heap.size W w') := hA.out.trans hb'
  replace OB : Hid (Own At W.heap.size w' _ _ _) := O'
  clear O' hb'
  go_wp2_with fail
  first | refine (H2.out _ _ OB.out hA.out.size).mono ?_ | refine (H2.out _ _ _ OB.out hA.out.size).mono ?_
  rintro e w' ⟨rfl, O', hb'⟩
  replace hA : Hid (Below W.heap.size W w') := hA.out.trans hb'
  replace OB : Hid (Own At W.heap.size w' _ _ _) := O'
  clear O' hb'
  go_wp2_with fail
  first | refine (H3.out _ _ OB.out hA.out.size).mono ?_ | refine (H3.out _ _ _ OB.out hA.out.size).mono ?_
  rintro e w' ⟨rfl, O', hb'⟩
  replace hA : Hid (Below W.heap.size W w') := hA.out.trans hb'
  replace OB : Hid (Own At W.heap.size w' _ _ _) := O'
  clear O' hb'
  go_wp2_with fail
  first | refine (H4.out _ _ OB.out hA.out.size).mono ?_ | refine (H4.out _ _ _ OB.out hA.out.size).mono ?_
  rintro e w' ⟨rfl, O', hb'⟩
  replace hA : Hid (Below W.heap.size W w') := hA.out.trans hb'
  replace OB : Hid (Own At W.heap.size w' _ _ _) := O'
  clear O' hb'
  go_wp2_with fail
  first | refine (H4.out _ _ OB.out hA.out.size).mono ?_ | refine (H4.out _ _ _ OB.out hA.out.size).mono ?_
  rintro e w' ⟨rfl, O', hb'⟩
  replace hA : Hid (Below W.heap.size W w') := hA.out.trans hb'
  replace OB : Hid (Own At W.heap.size w' _ _ _) := O'
  clear O' hb'
  go_wp2_with fail
  first | refine (H5.out _ _ OB.out hA.out.size).mono ?_ | refine (H5.out _ _ _ OB.out hA.out.size).mono ?_
  rintro e w' ⟨rfl, O', hb'⟩
  replace hA : Hid (Below W.heap.size W w') := hA.out.trans hb'
  replace OB : Hid (Own At W.heap.size w' _ _ _) := O'
  clear O' hb'
  go_wp2_with fail
  first | refine (H6.out _ _ OB.out hA.out.size).mono ?_ | refine (H6.out _ _ _ OB.out hA.out.size).mono ?_
  rintro e w' ⟨rfl, O', hb'⟩
  replace hA : Hid (Below W.heap.size W w') := hA.out.trans hb'
  replace OB : Hid (Own At W.heap.size w' _ _ _) := O'
  clear O' hb'
  go_wp2_with fail
  first | refine (H7.out _ _ OB.out hA.out.size).mono ?_ | refine (H7.out _ _ _ OB.out hA.out.size).mono ?_
  rintro e w' ⟨rfl, O', hb'⟩
  replace hA : Hid (Below W.heap.size W w') := hA.out.trans hb'
  replace OB : Hid (Own At W.heap.size w' _ _ _) := O'
  clear O' hb'
  go_wp2_with fail
  first | refine (H8.out _ _ OB.out hA.out.size).mono ?_ | refine (H8.out _ _ _ OB.out hA.out.size).mono ?_
  rintro e w' ⟨rfl, O', hb'⟩
  replace hA : Hid (Below W.heap.size W w') := hA.out.trans hb'
  replace OB : Hid (Own At W.heap.size w' _ _ _) := O'
  clear O' hb'
  go_wp2
  go_ret
  exact ⟨rfl, hA.out⟩
end Go.Proofs.Ythblfldnlfopcaa
