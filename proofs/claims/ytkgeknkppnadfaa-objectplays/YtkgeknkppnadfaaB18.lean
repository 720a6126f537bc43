/- Layer 18: law 18's own least, known. -/
import Derived.Test.YtkgeknkppnadfaaA18
import Derived.Test.YtkgeknkppnadfaaMb
import Derived.Test.YtkgeknkppnadfaaU2
import Derived.ProofKit
import Derived.OpenShut
import Derived.Deep.CutBlock
namespace Go.Proofs.Ytkgeknkppnadfaa
open Go.RowKit Go.WideShapes
set_option linter.unusedVariables false
def Mx.l18 : Mx.M := ⟨0, 0, 0, 0, 0, 0, 0, 0, [], [⟨1, 0, false⟩, ⟨2, 0, true⟩, ⟨3, 1, false⟩], []⟩
def Q18.k0 : Q18.St := Q18.mk Mx.l18.messages 0
set_option maxRecDepth 100000 in
set_option maxHeartbeats 8000000 in
theorem least18_any (w : World) : Calls Try.prog 23 #[] w fun e w' => ∃ a, e = .returned (mV Mx.l18 a) ∧ MIn w' Mx.l18 a ∧ Below w.heap.size w w' := by
  go_enter Try.func23, Try.ntmps23
  go_wp2
  have hs : ∀ (w : World) o, (w.alloc o).heap.size = w.heap.size + 1 := fun w o => by simp
  refine bodyPost_ret (v := mV Mx.l18 ⟨none, 0, some ⟨w.heap.size + 1, 0, none⟩, 3, none, 0⟩) (by simp [results, Try.results23, go_sem, mV, mCs, Mx.l18]) rfl ⟨_, rfl, ⟨⟨Nat.le_refl _, Nat.zero_le _, Or.inl rfl⟩, ?_, ⟨Nat.le_refl _, Nat.zero_le _, Or.inl rfl⟩⟩, ((Below.refl _ _).alloc (Nat.le_refl _) _).alloc (by simp) _⟩
  have := fun o1 => Mb.ol_lit 62 3 w.heap.size (w.alloc o1) 3 [.int .u32 1, .int .i64 0, .bool false, .int .u32 2, .int .i64 0, .bool true, .int .u32 3, .int .i64 1, .bool false] rfl (by simp) (by decide)
  simp only [hs] at this
  exact (this _).sl.li
set_option maxRecDepth 100000 in
set_option maxHeartbeats 8000000 in
theorem known18_any {Q : World → Prop} {At : World → Ob.A Q18.St} (hQ : ∀ w w', Q w → Below w.heap.size w w' → Q w') (S : ObjectSpec Q At) (W : World) (hW : Q W) : Calls Try.prog 7 #[] W fun e w' => e = .returned (.bool true) ∧ Below W.heap.size W w' := by
  go_enter Try.func7, Try.ntmps7
  go_wp2_with fail
  refine (least18_any W).mono ?_
  rintro e V ⟨a, rfl, hm, hb0⟩
  have HB0 : Hid (Below W.heap.size W V) := hb0
  have HQ : Hid (∀ w, Below V.heap.size V w → Q w) := fun w hb => hQ _ w (hQ W V hW hb0) hb
  have HM : Hid (MIn V Mx.l18 a) := hm
  clear hm hb0 hQ hW
  go_wp2_with fail
  refine (Oq.O1.makeV (S.new V V Mx.l18 a 0 (HQ.out V (Below.refl _ _)) (Below.refl _ _) HM.out ⟨by decide, by decide, by decide⟩ (by decide))).mono ?_
  clear HM
  rintro e w1 ⟨V, p, rfl, hV1, hq⟩
  replace HB0 : Hid (Below W.heap.size W V) := HB0.out.trans (hV1.mono HB0.out.size)
  replace HQ : Hid (∀ w, Below V.heap.size V w → Q w) := fun w hb => HQ.out w (hV1.trans (hb.mono hV1.size))
  clear hV1
  have HO : Hid (Oq.O1 (At V) V w1 p Q18.k0 []) := hq
  clear hq
  have HA1 : Hid (Q18.sendE (Q18.sendS Q18.k0 0 ⟨#[120]⟩) 1 ⟨#[121]⟩ = 0) := by rfl
  have HA2 : Hid (Q18.sendE (Q18.sendS (Q18.sendS Q18.k0 0 ⟨#[120]⟩) 1 ⟨#[121]⟩) 2 ⟨#[]⟩ = 145 ∧ Q18.sendS (Q18.sendS (Q18.sendS Q18.k0 0 ⟨#[120]⟩) 1 ⟨#[121]⟩) 2 ⟨#[]⟩ = (Q18.sendS (Q18.sendS Q18.k0 0 ⟨#[120]⟩) 1 ⟨#[121]⟩)) := ⟨rfl, rfl⟩
  have HA3 : Hid (Q18.sendE (Q18.sendS (Q18.sendS Q18.k0 0 ⟨#[120]⟩) 1 ⟨#[121]⟩) 0 ⟨#[49, 50, 51, 52, 53, 54, 55, 56, 57]⟩ = 12 ∧ Q18.sendS (Q18.sendS (Q18.sendS Q18.k0 0 ⟨#[120]⟩) 1 ⟨#[121]⟩) 0 ⟨#[49, 50, 51, 52, 53, 54, 55, 56, 57]⟩ = (Q18.sendS (Q18.sendS Q18.k0 0 ⟨#[120]⟩) 1 ⟨#[121]⟩)) := ⟨rfl, rfl⟩
  have HA4 : Hid (Q18.sentS (Q18.sendS (Q18.sendS Q18.k0 0 ⟨#[120]⟩) 1 ⟨#[121]⟩) 0 = (Q18.sendS (Q18.sendS Q18.k0 0 ⟨#[120]⟩) 1 ⟨#[121]⟩)) := rfl
  go_wp2_with fail
  refine (HO.out.turn (fun F hF => S.send V _ p F _ 0 ⟨#[120]⟩ (HQ.out _ HO.out.bel) HO.out.bel (by decide) hF)).mono ?_
  rintro e w2 ⟨rfl, hq⟩
  rw [show Q18.sendE Q18.k0 0 ⟨#[120]⟩ = 0 from rfl]
  replace HO : Hid (Oq.O1 (At V) V w2 p (Q18.sendS Q18.k0 0 ⟨#[120]⟩) []) := hq
  clear hq
  go_wp2_with fail
  refine (HO.out.turn (fun F hF => S.send V _ p F _ 1 ⟨#[121]⟩ (HQ.out _ HO.out.bel) HO.out.bel (by decide) hF)).mono ?_
  rintro e w3 ⟨rfl, hq⟩
  rw [HA1.out]
  replace HO : Hid (Oq.O1 (At V) V w3 p (Q18.sendS (Q18.sendS Q18.k0 0 ⟨#[120]⟩) 1 ⟨#[121]⟩) []) := hq
  clear hq
  go_wp2_with fail
  refine (HO.out.turn (fun F hF => S.send V _ p F _ 2 ⟨#[]⟩ (HQ.out _ HO.out.bel) HO.out.bel (by decide) hF)).mono ?_
  rintro e w4 ⟨rfl, hq⟩
  rw [HA2.out.2] at hq
  rw [HA2.out.1]
  replace HO : Hid (Oq.O1 (At V) V w4 p (Q18.sendS (Q18.sendS Q18.k0 0 ⟨#[120]⟩) 1 ⟨#[121]⟩) []) := hq
  clear hq
  go_wp2_with fail
  refine (HO.out.turn (fun F hF => S.send V _ p F _ 0 ⟨#[49, 50, 51, 52, 53, 54, 55, 56, 57]⟩ (HQ.out _ HO.out.bel) HO.out.bel (by decide) hF)).mono ?_
  rintro e w5 ⟨rfl, hq⟩
  rw [HA3.out.2] at hq
  rw [HA3.out.1]
  replace HO : Hid (Oq.O1 (At V) V w5 p (Q18.sendS (Q18.sendS Q18.k0 0 ⟨#[120]⟩) 1 ⟨#[121]⟩) []) := hq
  clear hq
  have e1 : Q18.get ((Q18.sendS (Q18.sendS Q18.k0 0 ⟨#[120]⟩) 1 ⟨#[121]⟩)).own 0 = some ⟨#[120]⟩ := rfl
  have e2 : Q18.get ((Q18.sendS (Q18.sendS Q18.k0 0 ⟨#[120]⟩) 1 ⟨#[121]⟩)).own 1 = none := rfl
  go_wp2_with fail
  refine (HO.out.turn (fun F hF => S.state V _ p F _ 0 (HQ.out _ HO.out.bel) HO.out.bel (by decide) hF)).mono ?_
  rintro e w6 ⟨rfl, hq⟩
  rw [e1]
  replace HO : Hid (Oq.O1 (At V) V w6 p (Q18.sendS (Q18.sendS Q18.k0 0 ⟨#[120]⟩) 1 ⟨#[121]⟩) []) := hq
  clear hq
  go_wp2_with fail
  refine (HO.out.turn (fun F hF => S.state V _ p F _ 1 (HQ.out _ HO.out.bel) HO.out.bel (by decide) hF)).mono ?_
  rintro e w7 ⟨rfl, hq⟩
  rw [e2]
  replace HO : Hid (Oq.O1 (At V) V w7 p (Q18.sendS (Q18.sendS Q18.k0 0 ⟨#[120]⟩) 1 ⟨#[121]⟩) []) := hq
  clear hq
  go_wp2_with fail
  refine (HO.out.turn (fun F hF => S.event V _ p F _ (HQ.out _ HO.out.bel) HO.out.bel hF)).mono ?_
  rintro e w8 ⟨rfl, hq⟩
  have hq2 := hq.al (S.is V) (.cells #[.int .i64 1, .string ⟨#[121]⟩] 43)
  have HO2 : Hid (Oq.O1 (At V) V (w8.alloc (.cells #[.int .i64 1, .string ⟨#[121]⟩] 43)) p (Q18.sendS (Q18.sendS Q18.k0 0 ⟨#[120]⟩) 1 ⟨#[121]⟩) [(w8.heap.size, .cells #[.int .i64 1, .string ⟨#[121]⟩] 43)]) := hq2
  rw [show dV (Vq.hd ((Q18.sendS (Q18.sendS Q18.k0 0 ⟨#[120]⟩) 1 ⟨#[121]⟩)).q) = .agg #[.int .i64 1, .string ⟨#[121]⟩] from rfl, show decide (0 < ((Q18.sendS (Q18.sendS Q18.k0 0 ⟨#[120]⟩) 1 ⟨#[121]⟩)).q.l.length) = true from rfl]
  clear hq hq2 HO e1 e2
  go_upto_region 7 with fail
  generalize w8.alloc (.cells #[.int .i64 1, .string ⟨#[121]⟩] 43) = v8 at HO2 ⊢
  generalize w8.heap.size = gd at HO2 ⊢
  go_wp2_with fail
  refine (HO2.out.turn (fun F hF => S.sent V _ p F _ 0 (HQ.out _ HO2.out.bel) HO2.out.bel (by decide) hF)).mono ?_
  rintro e w9 ⟨rfl, hq⟩
  rw [HA4.out] at hq
  replace HO2 : Hid (Oq.O1 (At V) V w9 p (Q18.sendS (Q18.sendS Q18.k0 0 ⟨#[120]⟩) 1 ⟨#[121]⟩) [(gd, .cells #[.int .i64 1, .string ⟨#[121]⟩] 43)]) := hq
  clear hq
  go_wp2_with fail
  refine (HO2.out.turn (fun F hF => S.waiting V _ p F _ (HQ.out _ HO2.out.bel) HO2.out.bel hF)).mono ?_
  rintro e w10 ⟨rfl, hq⟩
  rw [show ((((Q18.sendS (Q18.sendS Q18.k0 0 ⟨#[120]⟩) 1 ⟨#[121]⟩)).q.l.length : Nat) : Int) = 1 from rfl]
  replace HO2 : Hid (Oq.O1 (At V) V w10 p (Q18.sendS (Q18.sendS Q18.k0 0 ⟨#[120]⟩) 1 ⟨#[121]⟩) [(gd, .cells #[.int .i64 1, .string ⟨#[121]⟩] 43)]) := hq
  clear hq
  go_wp2_with fail
  refine (HO2.out.turn (fun F hF => S.sent V _ p F _ 1 (HQ.out _ HO2.out.bel) HO2.out.bel (by decide) hF)).mono ?_
  rintro e w11 ⟨rfl, hq⟩
  replace HO2 : Hid (Oq.O1 (At V) V w11 p (Q18.sentS (Q18.sendS (Q18.sendS Q18.k0 0 ⟨#[120]⟩) 1 ⟨#[121]⟩) 1) [(gd, .cells #[.int .i64 1, .string ⟨#[121]⟩] 43)]) := hq
  clear hq
  go_wp2_with fail
  refine (HO2.out.turn (fun F hF => S.got V _ p F _ 2 ⟨#[122]⟩ (HQ.out _ HO2.out.bel) HO2.out.bel (by decide) hF)).mono ?_
  rintro e w12 ⟨rfl, hq⟩
  replace HO2 : Hid (Oq.O1 (At V) V w12 p (Q18.gotS (Q18.sentS (Q18.sendS (Q18.sendS Q18.k0 0 ⟨#[120]⟩) 1 ⟨#[121]⟩) 1) 2 ⟨#[122]⟩) [(gd, .cells #[.int .i64 1, .string ⟨#[121]⟩] 43)]) := hq
  clear hq
  go_wp2_with fail
  refine (HO2.out.turn (fun F hF => S.read V _ p F _ 2 (HQ.out _ HO2.out.bel) HO2.out.bel (by decide) hF)).mono ?_
  rintro e w13 ⟨rfl, hq⟩
  rw [show Q18.get ((Q18.gotS (Q18.sentS (Q18.sendS (Q18.sendS Q18.k0 0 ⟨#[120]⟩) 1 ⟨#[121]⟩) 1) 2 ⟨#[122]⟩)).came 2 = some ⟨#[122]⟩ from rfl]
  replace HO2 : Hid (Oq.O1 (At V) V w13 p (Q18.gotS (Q18.sentS (Q18.sendS (Q18.sendS Q18.k0 0 ⟨#[120]⟩) 1 ⟨#[121]⟩) 1) 2 ⟨#[122]⟩) [(gd, .cells #[.int .i64 1, .string ⟨#[121]⟩] 43)]) := hq
  clear hq
  have hr := HO2.out.rows _ (List.mem_singleton.2 rfl)
  have d0 := Oq.row_cell (k := 0) hr rfl
  have d1 := Oq.row_cell (k := 1) hr rfl
  clear hr
  go_wp2_with fail
  refine (HO2.out.turn (fun F hF => S.waiting V _ p F _ (HQ.out _ HO2.out.bel) HO2.out.bel hF)).mono ?_
  rintro e w14 ⟨rfl, hq⟩
  rw [show ((((Q18.gotS (Q18.sentS (Q18.sendS (Q18.sendS Q18.k0 0 ⟨#[120]⟩) 1 ⟨#[121]⟩) 1) 2 ⟨#[122]⟩)).q.l.length : Nat) : Int) = 0 from rfl]
  have HBz : Hid (Below W.heap.size W w14) := HB0.out.trans (hq.bel.mono HB0.out.size)
  clear hq HO2
  go_wp2
  go_ret
  exact ⟨rfl, HBz.out⟩
end Go.Proofs.Ytkgeknkppnadfaa
