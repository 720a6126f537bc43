/- PlanDue: of every row of at most 40 triggers those that are due between two units of a cycle; cut anywhere the same (longer ones are let by); no condition. -/
import Derived.Test.YtlfhneiddfgoaaaDoorYg
import Derived.Test.YtlfhneiddfgoaaaDoorYh
import Derived.Test.YtlfhneiddfgoaaaDoorYb
import Derived.ProofKit
import Derived.OpenShut
namespace Go.Proofs.YtlfhneiddfgoaaaDoor.planDue
open Go.ChangeShapes Go.WideShapes Go.ChangeAt Go.RowKit
set_option linter.unusedVariables false
variable {Q : World → Prop}
set_option maxRecDepth 100000 in
set_option maxHeartbeats 8000000 in
theorem walkA (hQ : ∀ w w', Q w → Below w.heap.size w w' → Q w') (S : PlanSpec Q) (s0 : Option Addr) (len cap : Nat) (cy lo mid hi : Int) {W0 : World} (hl : ∃ l : List Yq.Tr, l.length = len ∧ (∀ x ∈ l, Yq.Wf x) ∧ LI W0 s0 cap len (l.flatMap tC)) (h1 : (Lit.int .i64 cy).wf = true) (h2 : (Lit.int .i64 lo).wf = true) (h3 : (Lit.int .i64 mid).wf = true) (h4 : (Lit.int .i64 hi).wf = true) (W : World) (hw0 : W = W0) (hW : Q W) :
    Calls Tryd.prog 4 #[.slice s0 len cap, .int .i64 cy, .int .i64 lo, .int .i64 mid, .int .i64 hi] W fun e w' => e = .returned (.bool true) ∧ Below W.heap.size W w' := by
  subst hw0
  obtain ⟨l, hlen, hwl, hli⟩ := hl
  have HQ : Hid (∀ w, Below W.heap.size W w → Q w) := fun w hb => hQ W w hW hb
  have HK : Hid (∀ w, Below W.heap.size W w → Calls Tryd.prog 9 #[] w fun e w' => e = .returned (.bool true) ∧ Below w.heap.size w w') := fun w hb => known15_any hQ S w (HQ.out _ hb)
  have HDu : Hid (∀ (w : World) (l : List Yq.Tr) (s : Option Addr) (c n : Nat) (cy lo hi : Int), Below W.heap.size W w → n = l.length → LI w s c n (l.flatMap tC) → l.length ≤ 1000 → (∀ t ∈ l, Yq.Wf t) → (Lit.int .i64 cy).wf = true → (Lit.int .i64 lo).wf = true → (Lit.int .i64 hi).wf = true → Calls Tryd.prog 18 #[.slice s n c, .int .i64 cy, .int .i64 lo, .int .i64 hi] w fun e w' => ∃ s c n, n = (Yq.due l cy lo hi).length ∧ e = .returned (.slice s n c) ∧ LI w' s c n ((Yq.due l cy lo hi).flatMap tC) ∧ Below w.heap.size w w') := fun w l s c n cy lo hi hb hn hl h1 h2 h3 h4 h5 => by subst hn; exact S.due w l s c cy lo hi (HQ.out _ hb) hl h1 h2 h3 h4 h5
  have HSa : Hid (∀ (w : World) (l : List Yq.Tr) (s t : Option Addr) (c d n k : Nat), n = l.length → k = l.length → LI w s c n (l.flatMap tC) → LI w t d k (l.flatMap tC) → l.length ≤ 1000 → Calls Tryd.prog 11 #[.slice s n c, .slice t k d] w fun e w' => e = .returned (.bool true) ∧ Below w.heap.size w w') := fun w l s t c d n k h1 h2 hl hr hn => by subst h1 h2; have := same15_any w l l s t c d hl hr hn hn; rwa [decide_eq_true rfl] at this
  have HL0 : Hid (LI W s0 cap len (l.flatMap tC)) := hli
  have HN0 : Hid (len = l.length) := hlen.symm
  have HWl : Hid (∀ x ∈ l, Yq.Wf x) := hwl
  have HV1 : Hid ((Lit.int .i64 cy).wf = true) := h1
  have HV2 : Hid ((Lit.int .i64 lo).wf = true) := h2
  have HV3 : Hid ((Lit.int .i64 mid).wf = true) := h3
  have HV4 : Hid ((Lit.int .i64 hi).wf = true) := h4
  have HRd : Hid (∀ w, LI w s0 cap len (l.flatMap tC) → l.length ≤ 1000 → Calls Tryd.prog 19 #[.slice s0 len cap, .int .i64 cy, .int .i64 lo, .int .i64 hi] w fun e w' => ∃ s c n, n = (Yq.due l cy lo hi).length ∧ e = .returned (.slice s n c) ∧ LI w' s c n ((Yq.due l cy lo hi).flatMap tC) ∧ Below w.heap.size w w') := fun w h hn => by
    subst hlen
    refine (rdue_any w l s0 cap cy lo hi h hn hwl h1).mono ?_
    rintro e w' ⟨s', c', n', e1, e2, e3, e4⟩
    exact ⟨s', c', n', e1, e2, e3.sl.li, e4⟩
  have HDl : Hid (∀ a b, (Yq.due l cy a b).length ≤ l.length) := fun a b => List.length_filter_le _ _
  have HB : Hid (Below W.heap.size W W) := Below.refl _ _
  clear hQ hW h1 h2 h3 h4 hwl hli hlen
  go_enter Tryd.func4, Tryd.ntmps4
  go_wp2_with fail
  refine (HK.out _ HB.out).mono ?_
  rintro e w1 ⟨rfl, hb⟩
  replace HL0 : Hid (LI w1 s0 cap len (l.flatMap tC)) := HL0.out.on hb
  replace HB : Hid (Below W.heap.size W w1) := HB.out.trans (hb.mono HB.out.size)
  clear hb HK
  by_cases h40 : 40 < len
  · have h40i : (40 : Int) < (len : Int) := by omega
    go_wp2
    go_ret
    exact ⟨rfl, HB.out⟩
  have h40i : ¬ ((40 : Int) < (len : Int)) := by omega
  have HL1000 : Hid (l.length ≤ 1000) := by show _ ≤ _; have := HN0.out; omega
  go_wp2_with fail
  refine (HDu.out _ l _ _ _ cy lo hi HB.out HN0.out HL0.out HL1000.out HWl.out HV1.out HV2.out HV4.out).mono ?_
  rintro e w2 ⟨s1, c1, n1, hn, rfl, hl, hb⟩
  replace HL0 : Hid (LI w2 s0 cap len (l.flatMap tC)) := HL0.out.on hb
  replace HB : Hid (Below W.heap.size W w2) := HB.out.trans (hb.mono HB.out.size)
  have HN1 : Hid (n1 = (Yq.due l cy lo hi).length) := hn
  have HL1 : Hid (LI w2 s1 c1 n1 ((Yq.due l cy lo hi).flatMap tC)) := hl
  clear hn hl
  clear hb
  go_wp2_with fail
  refine (HRd.out _ HL0.out HL1000.out).mono ?_
  rintro e w3 ⟨s2, c2, n2, hn, rfl, hl, hb⟩
  replace HL0 : Hid (LI w3 s0 cap len (l.flatMap tC)) := HL0.out.on hb
  replace HL1 : Hid (LI w3 s1 c1 n1 ((Yq.due l cy lo hi).flatMap tC)) := HL1.out.on hb
  replace HB : Hid (Below W.heap.size W w3) := HB.out.trans (hb.mono HB.out.size)
  have HN2 : Hid (n2 = (Yq.due l cy lo hi).length) := hn
  have HL2 : Hid (LI w3 s2 c2 n2 ((Yq.due l cy lo hi).flatMap tC)) := hl
  clear hn hl
  clear hb
  go_wp2_with fail
  refine (HSa.out _ (Yq.due l cy lo hi) _ _ _ _ _ _ HN1.out HN2.out HL1.out HL2.out (Nat.le_trans (HDl.out _ _) HL1000.out)).mono ?_
  rintro e w4 ⟨rfl, hb⟩
  replace HL0 : Hid (LI w4 s0 cap len (l.flatMap tC)) := HL0.out.on hb
  replace HL1 : Hid (LI w4 s1 c1 n1 ((Yq.due l cy lo hi).flatMap tC)) := HL1.out.on hb
  replace HL2 : Hid (LI w4 s2 c2 n2 ((Yq.due l cy lo hi).flatMap tC)) := HL2.out.on hb
  replace HB : Hid (Below W.heap.size W w4) := HB.out.trans (hb.mono HB.out.size)
  clear hb
  by_cases h1 : mid < lo
  · have h1d : decide (mid < lo) = true := decide_eq_true h1
    go_wp2
    go_ret
    exact ⟨rfl, HB.out⟩
  have h1d : decide (mid < lo) = false := decide_eq_false h1
  by_cases h2 : hi < mid
  · have h2d : decide (hi < mid) = true := decide_eq_true h2
    go_wp2
    go_ret
    exact ⟨rfl, HB.out⟩
  have h2d : decide (hi < mid) = false := decide_eq_false h2
  have HSp : Hid ((Yq.due l cy lo mid).length + (Yq.due l cy mid hi).length = (Yq.due l cy lo hi).length) := Yq.due_split l cy (by omega) (by omega)
  go_wp2_with fail
  refine (HDu.out _ l _ _ _ cy lo mid HB.out HN0.out HL0.out HL1000.out HWl.out HV1.out HV2.out HV3.out).mono ?_
  rintro e w5 ⟨s3, c3, n3, hn, rfl, hl, hb⟩
  replace HL0 : Hid (LI w5 s0 cap len (l.flatMap tC)) := HL0.out.on hb
  replace HB : Hid (Below W.heap.size W w5) := HB.out.trans (hb.mono HB.out.size)
  have HN3 : Hid (n3 = (Yq.due l cy lo mid).length) := hn
  have HL3 : Hid (LI w5 s3 c3 n3 ((Yq.due l cy lo mid).flatMap tC)) := hl
  clear hn hl
  clear hb
  go_wp2_with fail
  refine (HDu.out _ l _ _ _ cy mid hi HB.out HN0.out HL0.out HL1000.out HWl.out HV1.out HV3.out HV4.out).mono ?_
  rintro e w6 ⟨s4, c4, n4, hn, rfl, hl, hb⟩
  replace HL0 : Hid (LI w6 s0 cap len (l.flatMap tC)) := HL0.out.on hb
  replace HB : Hid (Below W.heap.size W w6) := HB.out.trans (hb.mono HB.out.size)
  have HN4 : Hid (n4 = (Yq.due l cy mid hi).length) := hn
  have HL4 : Hid (LI w6 s4 c4 n4 ((Yq.due l cy mid hi).flatMap tC)) := hl
  clear hn hl
  clear hb
  have e9 : (n3 : Int) + (n4 : Int) = (n1 : Int) := by have := HSp.out; have := HN1.out; have := HN3.out; have := HN4.out; omega
  have b9 : (n1 : Int) ≤ 1000 := by have := HDl.out lo hi; have := HL1000.out; have := HN1.out; omega
  have e8 : IntKind.i64.wrap ((n3 : Int) + (n4 : Int)) = (n1 : Int) := by rw [e9, IntKind.wrap_i64]; omega
  go_wp2
  go_ret
  refine ⟨?_, HB.out⟩
  first | rfl | simp [e9]
end Go.Proofs.YtlfhneiddfgoaaaDoor.planDue
