/- Layer 15: law 15's own least, known. -/
import Derived.Test.YtlfhneiddfgoaaaDoorYf
import Derived.Test.YtlfhneiddfgoaaaDoorMb
import Derived.Test.YtlfhneiddfgoaaaDoorHl
import Derived.Deep.CutBlock
import Derived.WalkSpells
namespace Go.Proofs.YtlfhneiddfgoaaaDoor
open Go.RowKit Go.WideShapes
set_option linter.unusedVariables false
def Mx.l15 : Mx.M := ⟨1, 2, 2, 400, 2, 16, 0, 8, [0], [⟨99, 1, false⟩], [⟨1, 40, 80, 1, 2, 0⟩]⟩
set_option maxRecDepth 100000 in
set_option maxHeartbeats 4000000 in
theorem least15_any (w : World) : Calls Tryd.prog 23 #[] w fun e w' => ∃ a, e = .returned (mV Mx.l15 a) ∧ MIn w' Mx.l15 a ∧ Below w.heap.size w w' := by
  go_enter Tryd.func23, Tryd.ntmps23
  go_wp2
  have hs : ∀ (w : World) o, (w.alloc o).heap.size = w.heap.size + 1 := fun w o => by simp
  refine bodyPost_ret (v := mV Mx.l15 ⟨some ⟨w.heap.size + 1, 0, none⟩, 1, some ⟨w.heap.size + 1 + 1, 0, none⟩, 1, some ⟨w.heap.size + 1 + 1 + 1, 0, none⟩, 1⟩) (by simp [results, Tryd.results23, go_sem, mV, mCs, Mx.l15]) rfl ⟨_, rfl, ⟨?_, ?_, ?_⟩, ((((Below.refl _ _).alloc (Nat.le_refl _) _).alloc (by simp) _).alloc (by simp; omega) _).alloc (by simp; omega) _⟩
  · have := fun o1 => Mb.ol_lit 3 1 w.heap.size (w.alloc o1) 1 [.int .i64 0] rfl (by simp) (by decide)
    simp only [hs] at this
    exact (((this _).on ((Below.refl _ _).alloc (Nat.le_refl _) _)).on ((Below.refl _ _).alloc (Nat.le_refl _) _)).sl.li
  · have := fun o1 o2 => Mb.ol_lit 53 3 w.heap.size ((w.alloc o1).alloc o2) 1 [.int .u32 99, .int .i64 1, .bool false] rfl (by simp; omega) (by decide)
    simp only [hs] at this
    exact ((this _ _).on ((Below.refl _ _).alloc (Nat.le_refl _) _)).sl.li
  · have := fun o1 o2 o3 => Mb.ol_lit 41 6 w.heap.size (((w.alloc o1).alloc o2).alloc o3) 1 [.int .i64 1, .int .i64 40, .int .i64 80, .int .i64 1, .int .i64 2, .int .i64 0] rfl (by simp; omega) (by decide)
    simp only [hs] at this
    exact (this _ _ _).sl.li
def Yq.ka : List Yq.Tr := [⟨3, 79, 1, 2, 0, 0⟩, ⟨4, 400, 0, 1, 0, 0⟩, ⟨4, 438, 0, 1, 1, 0⟩, ⟨5, 514, 0, 1, 0, 0⟩]
def Yq.kb : List Yq.Tr := [⟨1, 40, 1, 2, 0, 42⟩, ⟨5, 514, 0, 1, 0, 0⟩]
theorem Yq.ka_eq : Yq.plan Mx.l15 0 = Yq.ka := by decide +kernel
theorem Yq.kb_eq : Yq.plan Mx.l15 1 = Yq.kb := by decide +kernel
theorem Yq.ka_due1 : (Yq.due Yq.ka 1 0 79).length = 1 := by decide +kernel
theorem Yq.ka_due2 : (Yq.due Yq.ka 0 0 399).length = 0 := by decide +kernel
theorem Yq.ka_wf : ∀ t ∈ Yq.ka, Yq.Wf t := fun t ht => by
  simp only [Yq.ka, List.mem_cons, List.not_mem_nil, or_false] at ht
  rcases ht with rfl | rfl | rfl | rfl <;> exact ⟨by decide, by decide, by decide, by decide, by decide, by decide⟩
set_option maxRecDepth 100000 in
set_option maxHeartbeats 4000000 in
theorem known15_any {Q : World → Prop} (hQ : ∀ w w', Q w → Below w.heap.size w w' → Q w') (S : PlanSpec Q) (W : World) (hW : Q W) : Calls Tryd.prog 9 #[] W fun e w' => e = .returned (.bool true) ∧ Below W.heap.size W w' := by
  have HQ : Hid (∀ w, Below W.heap.size W w → Q w) := fun w hb => hQ W w hW hb
  have HPl : Hid (∀ (w : World) (p : Nat) (a : Ma) (who : Int) (l : List Yq.Tr), Bx W w p Mx.l15 a → Yq.plan Mx.l15 who = l → (Lit.int .i64 who).wf = true → Calls Tryd.prog 12 #[mV Mx.l15 a, .int .i64 who] w fun e w' => ∃ s c n, n = l.length ∧ e = .returned (.slice s n c) ∧ LI w' s c n (l.flatMap tC) ∧ Below w.heap.size w w') := fun w p a who l h e hw => by subst e; exact S.plan w Mx.l15 a who (HQ.out _ h.below) h.mem (Mx.small_is (by decide)) (Mx.wf_is (by decide)) hw
  have HDu : Hid (∀ (w : World) (s : Option Addr) (c : Nat) (cy lo hi : Int) (k : Nat), Below W.heap.size W w → LI w s c 4 (Yq.ka.flatMap tC) → (Lit.int .i64 cy).wf = true → (Lit.int .i64 lo).wf = true → (Lit.int .i64 hi).wf = true → (Yq.due Yq.ka cy lo hi).length = k → Calls Tryd.prog 18 #[.slice s 4 c, .int .i64 cy, .int .i64 lo, .int .i64 hi] w fun e w' => ∃ s' c', e = .returned (.slice s' k c') ∧ Below w.heap.size w w') := fun w s c cy lo hi k hb hl h1 h2 h3 hk => by
    subst hk
    refine (S.due w Yq.ka s c cy lo hi (HQ.out _ hb) hl (by decide) Yq.ka_wf h1 h2 h3).mono ?_
    rintro e w' ⟨s', c', n', hn, he, _, hb'⟩
    exact ⟨s', c', by rw [he, hn], hb'⟩
  clear hW hQ
  go_enter Tryd.func9, Tryd.ntmps9
  go_wp2_with fail
  refine (least15_any W).mono ?_
  rintro e w1 ⟨a, rfl, hm, hb⟩
  have HX : Hid (Bx W (w1.alloc (.cells #[.int .i64 Mx.l15.level, .int .i64 Mx.l15.nodes, .int .i64 Mx.l15.cycles, .int .i64 Mx.l15.length, .int .i64 Mx.l15.enable, .int .i64 Mx.l15.unit, .int .i64 Mx.l15.init, .int .u32 (Mx.l15.ref : Int), .slice a.s1 Mx.l15.masters.length a.c1, .slice a.s2 Mx.l15.messages.length a.c2, .slice a.s3 Mx.l15.windows.length a.c3] 27)) w1.heap.size Mx.l15 a) := Bx.make hb hm
  clear hm hb
  dsimp only [mV, mCs]
  go_upto_region 2 with fail
  generalize w1.alloc (.cells #[.int .i64 Mx.l15.level, .int .i64 Mx.l15.nodes, .int .i64 Mx.l15.cycles, .int .i64 Mx.l15.length, .int .i64 Mx.l15.enable, .int .i64 Mx.l15.unit, .int .i64 Mx.l15.init, .int .u32 (Mx.l15.ref : Int), .slice a.s1 Mx.l15.masters.length a.c1, .slice a.s2 Mx.l15.messages.length a.c2, .slice a.s3 Mx.l15.windows.length a.c3] 27) = v1 at HX ⊢
  generalize w1.heap.size = p at HX ⊢
  go_cut [2, 3] from 5 to 8 (fun va vb wx => ∃ s1 c1 s2 c2, va = .slice s1 4 c1 ∧ vb = .slice s2 2 c2 ∧ Hid (LI wx s1 c1 4 (Yq.ka.flatMap tC)) ∧ Hid (LI wx s2 c2 2 (Yq.kb.flatMap tC)) ∧ Hid (Below W.heap.size W wx))
  case first =>
    have HX1 : Hid (Bx W v1.drew p Mx.l15 a) := HX.out.on (Below.refl _ _).drew
    clear HX
    refine wp_region_held_drew (S := fun w' => RowT 27 w' p (mCs Mx.l15 a)) (by kernel_rfl) HX1.out.row (fun hHeld => ?_)
    refine Hl.takeL (i := 0) (d := 5) (v := ?_) rfl (by kernel_rfl) (by kernel_rfl) (by kernel_rfl) (fun _ _ _ h => h) (by rfl) ?_ (by first | assumption | trivial) ?_
    rotate_left
    · intro w hSw; obtain ⟨y0, y1, y2, y3, y4, y5, y6, y7, y8, y9, y10⟩ := hSw.mat; go_simp; (try with_reducible rfl)
    simp only [Act.put, List.setIfInBounds_toArray, List.set_cons_zero, List.set_cons_succ]
    refine Hl.takeL (i := 2) (d := 7) (v := ?_) rfl (by kernel_rfl) (by kernel_rfl) (by kernel_rfl) (fun _ _ _ h => h) (by rfl) ?_ (by first | assumption | trivial) ?_
    rotate_left
    · intro w hSw; obtain ⟨y0, y1, y2, y3, y4, y5, y6, y7, y8, y9, y10⟩ := hSw.mat; go_simp; (try with_reducible rfl)
    simp only [Act.put, List.setIfInBounds_toArray, List.set_cons_zero, List.set_cons_succ]
    refine Hl.consL (i := 1) rfl (by kernel_rfl) (fun K' hK' => ?_)
    go_simp
    refine (HPl.out _ p a 0 _ HX1.out Yq.ka_eq (wfi (by omega))).mono ?_
    rintro e w2 ⟨s1, c1, n1, hn, rfl, hl, hb⟩
    obtain rfl : n1 = 4 := hn
    have HL1 : Hid (LI w2 s1 c1 4 (Yq.ka.flatMap tC)) := hl
    have HX2 : Hid (Bx W w2 p Mx.l15 a) := HX1.out.on hb
    
    clear hl hb hHeld HX1
    try go_wp2_with fail
    refine hK'.out _ _ HX2.out.row (fun hHeld => ?_)
    clear hK' K'
    refine Hl.consL (i := 3) rfl (by kernel_rfl) (fun K' hK' => ?_)
    go_simp
    refine (HPl.out _ p a 1 _ HX2.out Yq.kb_eq (wfi (by omega))).mono ?_
    rintro e w3 ⟨s2, c2, n2, hn, rfl, hl, hb⟩
    obtain rfl : n2 = 2 := hn
    have HL2 : Hid (LI w3 s2 c2 2 (Yq.kb.flatMap tC)) := hl
    have HX3 : Hid (Bx W w3 p Mx.l15 a) := HX2.out.on hb
    replace HL1 : Hid (LI w3 s1 c1 4 (Yq.ka.flatMap tC)) := HL1.out.on hb
    clear hl hb hHeld HX2
    try go_wp2_with fail
    refine hK'.out _ _ HX3.out.row (fun hHeld => ?_)
    clear hK' K'
    refine Hl.takeL (i := 4) (d := 2) (v := ?_) rfl (by kernel_rfl) (by kernel_rfl) (by kernel_rfl) (fun _ _ _ h => h) (by rfl) ?_ (by first | assumption | trivial) ?_
    rotate_left
    · intro w hSw; skip; go_simp; (try with_reducible rfl)
    simp only [Act.put, List.setIfInBounds_toArray, List.set_cons_zero, List.set_cons_succ]
    refine Hl.takeL (i := 5) (d := 3) (v := ?_) rfl (by kernel_rfl) (by kernel_rfl) (by kernel_rfl) (fun _ _ _ h => h) (by rfl) ?_ (by first | assumption | trivial) ?_
    rotate_left
    · intro w hSw; skip; go_simp; (try with_reducible rfl)
    simp only [Act.put, List.setIfInBounds_toArray, List.set_cons_zero, List.set_cons_succ]
    refine wpAnyH_done (by kernel_rfl) ?_ _
    go_wp2_with fail
    go_meet
    case rel => exact ⟨s1, c1, s2, c2, rfl, rfl, HL1, HL2, HX3.out.below⟩
  case rest =>
    obtain ⟨s1, c1, s2, c2, rfl, rfl, HL1, HL2, HB⟩ := hcut
    have h1 := HL1.out
    have h2 := HL2.out
    obtain ⟨g1, o1, rfl, hc0⟩ := LI.trig (l := Yq.ka) h1 (i := 0) rfl
    obtain ⟨g1', o1', e1, hc1⟩ := LI.trig (l := Yq.ka) h1 (i := 1) rfl
    injection e1 with e1
    injection e1 with e1 e1'
    subst e1 e1'
    obtain ⟨g1', o1', e1, hc2⟩ := LI.trig (l := Yq.ka) h1 (i := 2) rfl
    injection e1 with e1
    injection e1 with e1 e1'
    subst e1 e1'
    obtain ⟨g1', o1', e1, hc3⟩ := LI.trig (l := Yq.ka) h1 (i := 3) rfl
    injection e1 with e1
    injection e1 with e1 e1'
    subst e1 e1'
    obtain ⟨g2, o2, rfl, hd0⟩ := LI.trig (l := Yq.kb) h2 (i := 0) rfl
    have cap1 := h1.1
    have cap2 := h2.1
    obtain ⟨a0, a1, a2, a3, a4, a5⟩ := hc0 wc (Below.refl _ _)
    obtain ⟨a6, a7, a8, a9, a10, a11⟩ := hc1 wc (Below.refl _ _)
    obtain ⟨b0, b1, b2, b3, b4, b5⟩ := hc2 wc (Below.refl _ _)
    obtain ⟨b6, b7, b8, b9, b10, b11⟩ := hc3 wc (Below.refl _ _)
    obtain ⟨d0, d1, d2, d3, d4, d5⟩ := hd0 wc (Below.refl _ _)
    simp only [Nat.zero_mul, Nat.one_mul, Nat.add_zero, Nat.add_assoc, Nat.reduceAdd, Nat.reduceMul] at a0 a1 a2 a3 a4 a5 a6 a7 a8 a9 a10 a11 b0 b1 b2 b3 b4 b5 b6 b7 b8 b9 b10 b11 d0 d1 d2 d3 d4 d5
    clear h1 h2 hc0 hc1 hc2 hc3 hd0
    go_wp2_with fail
    refine (HDu.out _ _ _ 1 0 79 1 HB.out HL1.out (wfi (by omega)) (wfi (by omega)) (wfi (by omega)) Yq.ka_due1).mono ?_
    rintro e w4 ⟨s4, c4, rfl, hb⟩
    replace HB : Hid (Below W.heap.size W w4) := HB.out.trans (hb.mono HB.out.size)
    replace HL1 : Hid (LI w4 (some ⟨g1, o1, none⟩) c1 4 (Yq.ka.flatMap tC)) := HL1.out.on hb
    clear hb HL2 a0 a1 a2 a3 a4 a5 a6 a7 a8 a9 a10 a11 b0 b1 b2 b3 b4 b5 b6 b7 b8 b9 b10 b11 d0 d1 d2 d3 d4 d5
    go_wp2_with fail
    refine (HDu.out _ _ _ 0 0 399 0 HB.out HL1.out (wfi (by omega)) (wfi (by omega)) (wfi (by omega)) Yq.ka_due2).mono ?_
    rintro e w5 ⟨s5, c5, rfl, hb⟩
    replace HB : Hid (Below W.heap.size W w5) := HB.out.trans (hb.mono HB.out.size)
    clear hb HL1
    go_wp2
    go_ret
    exact ⟨rfl, HB.out⟩
end Go.Proofs.YtlfhneiddfgoaaaDoor
