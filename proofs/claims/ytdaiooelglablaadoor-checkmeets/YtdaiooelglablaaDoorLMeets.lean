/- CheckMeets: two windows meet if they have a unit of a cycle together, whichever comes first; for every two windows; no condition. -/
import Derived.Test.YtdaiooelglablaaDoorL6
import Derived.Test.YtdaiooelglablaaDoorMw
import Derived.Deep.CutBlock
import Derived.ProofKit
import Derived.OpenShut
namespace Go.Proofs.YtdaiooelglablaaDoor.checkMeets
open Go.ChangeShapes Go.WideShapes Go.ChangeAt Go.RowKit
set_option linter.unusedVariables false
variable {Q : World → Prop}
def two (x y : Mx.Win) : Mx.M := { Mx.l14 with cycles := 8, windows := [x, y] }
theorem two_wf {x y : Mx.Win} (hx : Mx.WinWf x) (hy : Mx.WinWf y) : Mx.Wf (two x y) := ⟨rfl, rfl, rfl, rfl, rfl, rfl, rfl, by show 8 < 4294967296; decide, (fun z hz => by simp [two, Mx.l14] at hz; subst hz; rfl), (fun z hz => by simp [two, Mx.l14] at hz; subst hz; exact ⟨by decide, rfl⟩), (fun z hz => by simp [two] at hz; rcases hz with rfl | rfl; exact hx; exact hy)⟩
theorem meet01 (x y : Mx.Win) : Lq.meet (two x y) 0 1 = ((List.range 8).any (Lq.both 8 x y) && decide (x.start < y.fin) && decide (y.start < x.fin)) := by
  show Lq.meetW 8 x y = _
  unfold Lq.meetW Lq.cross
  cases (List.range 8).any (Lq.both 8 x y) <;> cases decide (x.start < y.fin) <;> cases decide (y.start < x.fin) <;> rfl
theorem both_comm (x y : Mx.Win) : Lq.both 8 x y = Lq.both 8 y x := by
  funext c
  unfold Lq.both
  cases decide ((c : Int) < 8) <;> cases Mx.comes x.cycle x.rep c <;> cases Mx.comes y.cycle y.rep c <;> rfl
theorem meet10 (x y : Mx.Win) : Lq.meet (two x y) 1 0 = ((List.range 8).any (Lq.both 8 x y) && decide (x.start < y.fin) && decide (y.start < x.fin)) := by
  show Lq.meetW 8 y x = _
  unfold Lq.meetW Lq.cross
  rw [both_comm y x]
  cases (List.range 8).any (Lq.both 8 x y) <;> cases decide (x.start < y.fin) <;> cases decide (y.start < x.fin) <;> rfl
theorem meet02 (x y : Mx.Win) : Lq.meet (two x y) 0 2 = false := rfl
theorem meetm (x y : Mx.Win) : Lq.meet (two x y) (-1) 0 = false := rfl
theorem any_succ (f : Nat → Bool) (k : Nat) : (List.range (k + 1)).any f = ((List.range k).any f || f k) := by rw [List.range_succ, List.any_append]; simp
set_option maxRecDepth 100000 in
set_option maxHeartbeats 16000000 in
theorem walkA (hQ : ∀ w w', Q w → Below w.heap.size w w' → Q w') (S : CheckSpec Q) (x y : Mx.Win) (hx : Mx.WinWf x) (hy : Mx.WinWf y) (W : World) (hW : Q W) :
    Calls Tryd.prog 7 #[.agg #[.int .i64 x.kind, .int .i64 x.start, .int .i64 x.fin, .int .i64 x.cycle, .int .i64 x.rep, .int .i64 x.msg], .agg #[.int .i64 y.kind, .int .i64 y.start, .int .i64 y.fin, .int .i64 y.cycle, .int .i64 y.rep, .int .i64 y.msg]] W fun e w' => e = .returned (.bool true) ∧ Below W.heap.size W w' := by
  have HQ : Hid (∀ w, Below W.heap.size W w → Q w) := fun w hb => hQ W w hW hb
  have HK : Hid (∀ w, Below W.heap.size W w → Calls Tryd.prog 9 #[] w fun e w' => e = .returned (.bool true) ∧ Below w.heap.size w w') := fun w hb => known14_any hQ S w (HQ.out _ hb)
  have hwf := two_wf hx hy
  have HM : Hid (∀ (w : World) (p : Nat) (a : Ma) (i j : Int) (b : Bool), Mb W w p (two x y) a → (Lit.int .i64 i).wf = true → (Lit.int .i64 j).wf = true → Lq.meet (two x y) i j = b → Calls Tryd.prog 13 #[mV (two x y) a, .int .i64 i, .int .i64 j] w fun e w' => e = .returned (.bool b) ∧ Below w.heap.size w w') := fun w p a i j b h hi hj hb => by subst hb; exact S.meet w _ a i j (HQ.out _ h.bel) h.mem ⟨by show 1 ≤ 1000; decide, by show 1 ≤ 1000; decide, by show 2 ≤ 1000; decide⟩ hwf hi hj
  have bx := bounds_i64 hx.2.2.2.1
  have by_ := bounds_i64 hy.2.2.2.1
  have hb2 : Below W.heap.size W ((W.alloc (.cells #[.int .i64 x.kind, .int .i64 x.start, .int .i64 x.fin, .int .i64 x.cycle, .int .i64 x.rep, .int .i64 x.msg] 40)).alloc (.cells #[.int .i64 y.kind, .int .i64 y.start, .int .i64 y.fin, .int .i64 y.cycle, .int .i64 y.rep, .int .i64 y.msg] 40)) := ((Below.refl _ _).alloc (Nat.le_refl _) _).alloc (by simp) _
  have HA : Hid (Below W.heap.size W ((W.alloc (.cells #[.int .i64 x.kind, .int .i64 x.start, .int .i64 x.fin, .int .i64 x.cycle, .int .i64 x.rep, .int .i64 x.msg] 40)).alloc (.cells #[.int .i64 y.kind, .int .i64 y.start, .int .i64 y.fin, .int .i64 y.cycle, .int .i64 y.rep, .int .i64 y.msg] 40))) := hb2
  have HV1 : Hid (RowT 40 ((W.alloc (.cells #[.int .i64 x.kind, .int .i64 x.start, .int .i64 x.fin, .int .i64 x.cycle, .int .i64 x.rep, .int .i64 x.msg] 40)).alloc (.cells #[.int .i64 y.kind, .int .i64 y.start, .int .i64 y.fin, .int .i64 y.cycle, .int .i64 y.rep, .int .i64 y.msg] 40)) W.heap.size (mC3 x).toArray) := (RowT.new _ W _).on ((Below.refl _ _).alloc (Nat.le_refl _) _)
  have HV2 : Hid (RowT 40 ((W.alloc (.cells #[.int .i64 x.kind, .int .i64 x.start, .int .i64 x.fin, .int .i64 x.cycle, .int .i64 x.rep, .int .i64 x.msg] 40)).alloc (.cells #[.int .i64 y.kind, .int .i64 y.start, .int .i64 y.fin, .int .i64 y.cycle, .int .i64 y.rep, .int .i64 y.msg] 40)) (W.heap.size + 1) (mC3 y).toArray) := by
    have := RowT.new 40 (W.alloc (.cells #[.int .i64 x.kind, .int .i64 x.start, .int .i64 x.fin, .int .i64 x.cycle, .int .i64 x.rep, .int .i64 x.msg] 40)) (mC3 y).toArray
    rwa [show (W.alloc (.cells #[.int .i64 x.kind, .int .i64 x.start, .int .i64 x.fin, .int .i64 x.cycle, .int .i64 x.rep, .int .i64 x.msg] 40)).heap.size = W.heap.size + 1 by simp] at this
  have hE1 := meet01 x y
  have hE2 := meet10 x y
  clear hQ hW hwf hb2
  go_enter Tryd.func7, Tryd.ntmps7
  go_wp2_with fail
  generalize (W.alloc (.cells #[.int .i64 x.kind, .int .i64 x.start, .int .i64 x.fin, .int .i64 x.cycle, .int .i64 x.rep, .int .i64 x.msg] 40)).alloc (.cells #[.int .i64 y.kind, .int .i64 y.start, .int .i64 y.fin, .int .i64 y.cycle, .int .i64 y.rep, .int .i64 y.msg] 40) = z0 at HA HV1 HV2 ⊢
  refine (HK.out _ HA.out).mono ?_
  rintro e z1 ⟨rfl, hb⟩
  replace HA : Hid (Below W.heap.size W z1) := HA.out.trans (hb.mono HA.out.size)
  replace HV1 : Hid (RowT 40 z1 W.heap.size (mC3 x).toArray) := HV1.out.on hb
  replace HV2 : Hid (RowT 40 z1 (W.heap.size + 1) (mC3 y).toArray) := HV2.out.on hb
  clear hb HK
  go_wp2_with fail
  refine (least14_any z1).mono ?_
  rintro e z1b ⟨a, rfl, hO, hb⟩
  have HX : Hid (Mb W (z1b.alloc (.cells #[.int .i64 Mx.l14.level, .int .i64 Mx.l14.nodes, .int .i64 Mx.l14.cycles, .int .i64 Mx.l14.length, .int .i64 Mx.l14.enable, .int .i64 Mx.l14.unit, .int .i64 Mx.l14.init, .int .u32 (Mx.l14.ref : Int), .slice a.s1 Mx.l14.masters.length a.c1, .slice a.s2 Mx.l14.messages.length a.c2, .slice a.s3 Mx.l14.windows.length a.c3] 27)) z1b.heap.size Mx.l14 a) := Mb.of (hO.mono HA.out.size) (HA.out.trans (hb.mono HA.out.size))
  replace HV1 : Hid (RowT 40 (z1b.alloc (.cells #[.int .i64 Mx.l14.level, .int .i64 Mx.l14.nodes, .int .i64 Mx.l14.cycles, .int .i64 Mx.l14.length, .int .i64 Mx.l14.enable, .int .i64 Mx.l14.unit, .int .i64 Mx.l14.init, .int .u32 (Mx.l14.ref : Int), .slice a.s1 Mx.l14.masters.length a.c1, .slice a.s2 Mx.l14.messages.length a.c2, .slice a.s3 Mx.l14.windows.length a.c3] 27)) W.heap.size (mC3 x).toArray) := (HV1.out.on hb).on ((Below.refl _ _).alloc (Nat.le_refl _) _)
  replace HV2 : Hid (RowT 40 (z1b.alloc (.cells #[.int .i64 Mx.l14.level, .int .i64 Mx.l14.nodes, .int .i64 Mx.l14.cycles, .int .i64 Mx.l14.length, .int .i64 Mx.l14.enable, .int .i64 Mx.l14.unit, .int .i64 Mx.l14.init, .int .u32 (Mx.l14.ref : Int), .slice a.s1 Mx.l14.masters.length a.c1, .slice a.s2 Mx.l14.messages.length a.c2, .slice a.s3 Mx.l14.windows.length a.c3] 27)) (W.heap.size + 1) (mC3 y).toArray) := (HV2.out.on hb).on ((Below.refl _ _).alloc (Nat.le_refl _) _)
  clear hO hb HA
  dsimp only [mV, mCs]
  go_upto_region 4 with fail
  generalize z1b.alloc (.cells #[.int .i64 Mx.l14.level, .int .i64 Mx.l14.nodes, .int .i64 Mx.l14.cycles, .int .i64 Mx.l14.length, .int .i64 Mx.l14.enable, .int .i64 Mx.l14.unit, .int .i64 Mx.l14.init, .int .u32 (Mx.l14.ref : Int), .slice a.s1 Mx.l14.masters.length a.c1, .slice a.s2 Mx.l14.messages.length a.c2, .slice a.s3 Mx.l14.windows.length a.c3] 27) = z2 at HX HV1 HV2 ⊢
  generalize z1b.heap.size = p at HX ⊢
  have q2 : z2.cell? ⟨p, 2, none⟩ = some (.int .i64 2) := HX.out.row.c 2 _ rfl
  have f2 := HX.out.row.f 2
  have hk1 : Kept (fun j => j = p) z2 (z2.setCell ⟨p, 2, none⟩ (.int .i64 8)) := Kept.set _ _ _ rfl
  have n1 := Mb.row_ne HV1.out HX.out.row (by decide)
  have n2 := Mb.row_ne HV2.out HX.out.row (by decide)
  replace HV1 : Hid (RowT 40 (z2.setCell ⟨p, 2, none⟩ (.int .i64 8)) W.heap.size (mC3 x).toArray) := HV1.out.kept hk1 n1
  replace HV2 : Hid (RowT 40 (z2.setCell ⟨p, 2, none⟩ (.int .i64 8)) (W.heap.size + 1) (mC3 y).toArray) := HV2.out.kept hk1 n2
  replace HX : Hid (Mb W (z2.setCell ⟨p, 2, none⟩ (.int .i64 8)) p { Mx.l14 with cycles := 8 } a) := HX.out.word 2 _ rfl rfl rfl rfl
  clear hk1
  go_upto_region 5 with fail
  generalize z2.setCell ⟨p, 2, none⟩ (.int .i64 8) = z3 at HX HV1 HV2 ⊢
  clear q2 f2
  have r0 : z3.cell? ⟨W.heap.size, 0, none⟩ = some (.int .i64 x.kind) := HV1.out.c 0 _ rfl
  have r1 : z3.cell? ⟨W.heap.size, 1, none⟩ = some (.int .i64 x.start) := HV1.out.c 1 _ rfl
  have r2 : z3.cell? ⟨W.heap.size, 2, none⟩ = some (.int .i64 x.fin) := HV1.out.c 2 _ rfl
  have r3 : z3.cell? ⟨W.heap.size, 3, none⟩ = some (.int .i64 x.cycle) := HV1.out.c 3 _ rfl
  have r4 : z3.cell? ⟨W.heap.size, 4, none⟩ = some (.int .i64 x.rep) := HV1.out.c 4 _ rfl
  have r5 : z3.cell? ⟨W.heap.size, 5, none⟩ = some (.int .i64 x.msg) := HV1.out.c 5 _ rfl
  have t0 : z3.cell? ⟨W.heap.size + 1, 0, none⟩ = some (.int .i64 y.kind) := HV2.out.c 0 _ rfl
  have t1 : z3.cell? ⟨W.heap.size + 1, 1, none⟩ = some (.int .i64 y.start) := HV2.out.c 1 _ rfl
  have t2 : z3.cell? ⟨W.heap.size + 1, 2, none⟩ = some (.int .i64 y.fin) := HV2.out.c 2 _ rfl
  have t3 : z3.cell? ⟨W.heap.size + 1, 3, none⟩ = some (.int .i64 y.cycle) := HV2.out.c 3 _ rfl
  have t4 : z3.cell? ⟨W.heap.size + 1, 4, none⟩ = some (.int .i64 y.rep) := HV2.out.c 4 _ rfl
  have t5 : z3.cell? ⟨W.heap.size + 1, 5, none⟩ = some (.int .i64 y.msg) := HV2.out.c 5 _ rfl
  have qk : ∀ o, (z3.alloc o).cell? ⟨p, 10, none⟩ = some (.slice a.s3 0 a.c3) := fun o => (HX.out.al o).row.c 10 _ rfl
  have fk : ∀ o, (z3.alloc o).frozen? ⟨p, 10, none⟩ = false := fun o => (HX.out.al o).row.f 10
  have hk1 : Kept (fun j => j = p) (z3.alloc (.cells #[.int .i64 x.kind, .int .i64 x.start, .int .i64 x.fin, .int .i64 x.cycle, .int .i64 x.rep, .int .i64 x.msg, .int .i64 y.kind, .int .i64 y.start, .int .i64 y.fin, .int .i64 y.cycle, .int .i64 y.rep, .int .i64 y.msg] 40)) ((z3.alloc (.cells #[.int .i64 x.kind, .int .i64 x.start, .int .i64 x.fin, .int .i64 x.cycle, .int .i64 x.rep, .int .i64 x.msg, .int .i64 y.kind, .int .i64 y.start, .int .i64 y.fin, .int .i64 y.cycle, .int .i64 y.rep, .int .i64 y.msg] 40)).setCell ⟨p, 10, none⟩ (.slice (some ⟨z3.heap.size, 0, none⟩) 2 2)) := Kept.set _ _ _ rfl
  replace HV1 : Hid (RowT 40 ((z3.alloc (.cells #[.int .i64 x.kind, .int .i64 x.start, .int .i64 x.fin, .int .i64 x.cycle, .int .i64 x.rep, .int .i64 x.msg, .int .i64 y.kind, .int .i64 y.start, .int .i64 y.fin, .int .i64 y.cycle, .int .i64 y.rep, .int .i64 y.msg] 40)).setCell ⟨p, 10, none⟩ (.slice (some ⟨z3.heap.size, 0, none⟩) 2 2)) W.heap.size (mC3 x).toArray) := (HV1.out.on ((Below.refl _ _).alloc (Nat.le_refl _) _)).kept hk1 n1
  replace HV2 : Hid (RowT 40 ((z3.alloc (.cells #[.int .i64 x.kind, .int .i64 x.start, .int .i64 x.fin, .int .i64 x.cycle, .int .i64 x.rep, .int .i64 x.msg, .int .i64 y.kind, .int .i64 y.start, .int .i64 y.fin, .int .i64 y.cycle, .int .i64 y.rep, .int .i64 y.msg] 40)).setCell ⟨p, 10, none⟩ (.slice (some ⟨z3.heap.size, 0, none⟩) 2 2)) (W.heap.size + 1) (mC3 y).toArray) := (HV2.out.on ((Below.refl _ _).alloc (Nat.le_refl _) _)).kept hk1 n2
  replace HX : Hid (Mb W ((z3.alloc (.cells #[.int .i64 x.kind, .int .i64 x.start, .int .i64 x.fin, .int .i64 x.cycle, .int .i64 x.rep, .int .i64 x.msg, .int .i64 y.kind, .int .i64 y.start, .int .i64 y.fin, .int .i64 y.cycle, .int .i64 y.rep, .int .i64 y.msg] 40)).setCell ⟨p, 10, none⟩ (.slice (some ⟨z3.heap.size, 0, none⟩) 2 2)) p (two x y) { a with s3 := some ⟨z3.heap.size, 0, none⟩, c3 := 2 }) := (HX.out.al _).put3 (xs := [x, y]) (Mb.ol_lit 40 6 W.heap.size z3 2 _ rfl HX.out.bel.size (by decide)) rfl
  go_upto_region 6 with fail
  generalize (z3.alloc (.cells #[.int .i64 x.kind, .int .i64 x.start, .int .i64 x.fin, .int .i64 x.cycle, .int .i64 x.rep, .int .i64 x.msg, .int .i64 y.kind, .int .i64 y.start, .int .i64 y.fin, .int .i64 y.cycle, .int .i64 y.rep, .int .i64 y.msg] 40)).setCell ⟨p, 10, none⟩ (.slice (some ⟨z3.heap.size, 0, none⟩) 2 2) = z4 at HX HV1 HV2 ⊢
  generalize z3.heap.size = gW at HX ⊢
  clear qk fk hk1 n1 n2 r0 r1 r2 r3 r4 r5 t0 t1 t2 t3 t4 t5
  have r3 : z4.cell? ⟨W.heap.size, 3, none⟩ = some (.int .i64 x.cycle) := HV1.out.c 3 _ rfl
  have r4 : z4.cell? ⟨W.heap.size, 4, none⟩ = some (.int .i64 x.rep) := HV1.out.c 4 _ rfl
  have t3 : z4.cell? ⟨W.heap.size + 1, 3, none⟩ = some (.int .i64 y.cycle) := HV2.out.c 3 _ rfl
  have t4 : z4.cell? ⟨W.heap.size + 1, 4, none⟩ = some (.int .i64 y.rep) := HV2.out.c 4 _ rfl
  obtain ⟨bx1, bx2⟩ := bx
  obtain ⟨by1, by2⟩ := by_
  go_wp2_with fail
  go_loopw [6, 7, 8, 9] (fun vs vi _a _b wr => ∃ k : Nat, k ≤ 8 ∧ vi = .int .i64 (k : Int) ∧ vs = .bool ((List.range k).any (Lq.both 8 x y)) ∧ wr = z4) (fun _ vi _ _ _ => 8 - (intOf vi).toNat)
  case atStart => exact ⟨0, Nat.zero_le _, rfl, rfl, rfl⟩
  case round =>
    obtain ⟨k, hk, rfl, rfl, rfl⟩ := hrel
    by_cases hk8 : k < 8
    · have k8 : (k : Int) < 8 := by omega
      have hbk : Lq.both 8 x y k = (Mx.comes x.cycle x.rep (k : Int) && Mx.comes y.cycle y.rep (k : Int)) := by unfold Lq.both; rw [decide_eq_true k8]; rfl
      have hsu := any_succ (Lq.both 8 x y) k
      rw [hbk] at hsu
      generalize (List.range k).any (Lq.both 8 x y) = A at *
      have HSu : Hid ((List.range (k + 1)).any (Lq.both 8 x y) = (A || (Mx.comes x.cycle x.rep (k : Int) && Mx.comes y.cycle y.rep (k : Int)))) := hsu
      clear hsu hbk
      go_upto_region 10 with fail
      go_cut [8] from 19 to 77 (fun v wx => v = .bool (Mx.comes x.cycle x.rep (k : Int)) ∧ wx = wr)
      case first =>
        by_cases c1 : 0 < x.rep
        · by_cases c2 : 0 ≤ x.cycle
          · by_cases c3 : x.cycle ≤ (k : Int)
            · have hC : Mx.comes x.cycle x.rep (k : Int) = (((k : Int) - x.cycle) % x.rep == 0) := by unfold Mx.comes; rw [decide_eq_true c1, decide_eq_true c2, decide_eq_true c3]; rfl
              have n0 : x.rep ≠ 0 := by omega
              go_wp2_with fail
              go_meet
              case rel => exact ⟨by rw [hC], rfl⟩
            · have hC : Mx.comes x.cycle x.rep (k : Int) = false := by unfold Mx.comes; rw [decide_eq_false c3]; simp
              go_wp2_with fail
              go_meet
              case rel => exact ⟨by rw [hC], rfl⟩
          · have hC : Mx.comes x.cycle x.rep (k : Int) = false := by unfold Mx.comes; rw [decide_eq_false c2]; simp
            go_wp2_with fail
            go_meet
            case rel => exact ⟨by rw [hC], rfl⟩
        · have hC : Mx.comes x.cycle x.rep (k : Int) = false := by unfold Mx.comes; rw [decide_eq_false c1]; simp
          go_wp2_with fail
          go_meet
          case rel => exact ⟨by rw [hC], rfl⟩
      case rest =>
        obtain ⟨rfl, hwc⟩ := hcut
        obtain rfl : wr = wc := hwc.symm
        generalize Mx.comes x.cycle x.rep (k : Int) = C1 at *
        go_upto_region 11 with fail
        go_cut [9] from 19 to 77 (fun v wx => v = .bool (Mx.comes y.cycle y.rep (k : Int)) ∧ wx = wr)
        case first =>
          by_cases c1 : 0 < y.rep
          · by_cases c2 : 0 ≤ y.cycle
            · by_cases c3 : y.cycle ≤ (k : Int)
              · have hC : Mx.comes y.cycle y.rep (k : Int) = (((k : Int) - y.cycle) % y.rep == 0) := by unfold Mx.comes; rw [decide_eq_true c1, decide_eq_true c2, decide_eq_true c3]; rfl
                have n0 : y.rep ≠ 0 := by omega
                go_wp2_with fail
                go_meet
                case rel => exact ⟨by rw [hC], rfl⟩
              · have hC : Mx.comes y.cycle y.rep (k : Int) = false := by unfold Mx.comes; rw [decide_eq_false c3]; simp
                go_wp2_with fail
                go_meet
                case rel => exact ⟨by rw [hC], rfl⟩
            · have hC : Mx.comes y.cycle y.rep (k : Int) = false := by unfold Mx.comes; rw [decide_eq_false c2]; simp
              go_wp2_with fail
              go_meet
              case rel => exact ⟨by rw [hC], rfl⟩
          · have hC : Mx.comes y.cycle y.rep (k : Int) = false := by unfold Mx.comes; rw [decide_eq_false c1]; simp
            go_wp2_with fail
            go_meet
            case rel => exact ⟨by rw [hC], rfl⟩
        case rest =>
          obtain ⟨rfl, hwc⟩ := hcut
          obtain rfl : wr = wc := hwc.symm
          generalize Mx.comes y.cycle y.rep (k : Int) = C2 at *
          cases A
          · cases C1
            · go_wp2_with fail
              go_roundw
              case rel => exact ⟨k + 1, by omega, rfl, by rw [HSu.out]; first | rfl | simp, (by first | rfl | trivial)⟩
              case measure => simp only [intOf]; omega
            · go_wp2_with fail
              go_roundw
              case rel => exact ⟨k + 1, by omega, rfl, by rw [HSu.out]; first | rfl | simp, (by first | rfl | trivial)⟩
              case measure => simp only [intOf]; omega
          · go_wp2_with fail
            go_roundw
            case rel => exact ⟨k + 1, by omega, rfl, by rw [HSu.out]; first | rfl | simp, (by first | rfl | trivial)⟩
            case measure => simp only [intOf]; omega
    · obtain rfl : k = 8 := by omega
      have x1 : wr.cell? ⟨W.heap.size, 1, none⟩ = some (.int .i64 x.start) := HV1.out.c 1 _ rfl
      have x2 : wr.cell? ⟨W.heap.size, 2, none⟩ = some (.int .i64 x.fin) := HV1.out.c 2 _ rfl
      have u1 : wr.cell? ⟨W.heap.size + 1, 1, none⟩ = some (.int .i64 y.start) := HV2.out.c 1 _ rfl
      have u2 : wr.cell? ⟨W.heap.size + 1, 2, none⟩ = some (.int .i64 y.fin) := HV2.out.c 2 _ rfl
      clear r3 r4 t3 t4 bx1 bx2 by1 by2 hk hk8
      generalize (List.range 8).any (Lq.both 8 x y) = A at *
      go_upto_region 13 with fail
      go_cut [10] from 78 (fun v wx => v = .bool (A && decide (x.start < y.fin) && decide (y.start < x.fin)) ∧ wx = wr)
      case first =>
        cases A
        · go_wp2_with fail
          go_meet
          case rel => exact ⟨rfl, rfl⟩
        · by_cases c1 : x.start < y.fin
          · by_cases c2 : y.start < x.fin
            · go_wp2_with fail
              go_meet
              case rel => exact ⟨by rw [decide_eq_true (show x.start < y.fin by omega), decide_eq_true (show y.start < x.fin by omega)]; rfl, rfl⟩
            · go_wp2_with fail
              go_meet
              case rel => exact ⟨by rw [decide_eq_true (show x.start < y.fin by omega), decide_eq_false (show ¬ y.start < x.fin by omega)]; rfl, rfl⟩
          · go_wp2_with fail
            go_meet
            case rel => exact ⟨by rw [decide_eq_false (show ¬ x.start < y.fin by omega)]; rfl, rfl⟩
      case rest =>
        obtain ⟨rfl, hwc⟩ := hcut
        obtain rfl : wr = wc := hwc.symm
        clear x1 x2 u1 u2 HV1 HV2
        generalize (A && decide (x.start < y.fin) && decide (y.start < x.fin)) = E at *
        have HE1 : Hid (Lq.meet (two x y) 0 1 = E) := hE1
        have HE2 : Hid (Lq.meet (two x y) 1 0 = E) := hE2
        have HW : Hid ((Lit.int .i64 (0 : Int)).wf = true ∧ (Lit.int .i64 (1 : Int)).wf = true ∧ (Lit.int .i64 (2 : Int)).wf = true ∧ (Lit.int .i64 (-1 : Int)).wf = true) := ⟨wfi (by omega), wfi (by omega), wfi (by omega), wfi (by omega)⟩
        clear hE1 hE2
        obtain ⟨y0, y1, y2, y3, y4, y5, y6, y7, y8, y9, y10⟩ := HX.out.row.mat
        go_wp2_with fail
        refine (HM.out _ p _ 0 1 E HX.out HW.out.1 HW.out.2.1 HE1.out).mono ?_
        rintro e v1 ⟨rfl, hb⟩
        replace HX : Hid (Mb W v1 p (two x y) { a with s3 := some ⟨gW, 0, none⟩, c3 := 2 }) := HX.out.on hb
        clear y0 y1 y10 y2 y3 y4 y5 y6 y7 y8 y9
        clear hb
        obtain ⟨y0, y1, y2, y3, y4, y5, y6, y7, y8, y9, y10⟩ := HX.out.row.mat
        go_wp2_with fail
        refine (HM.out _ p _ 1 0 E HX.out HW.out.2.1 HW.out.1 HE2.out).mono ?_
        rintro e v2 ⟨rfl, hb⟩
        replace HX : Hid (Mb W v2 p (two x y) { a with s3 := some ⟨gW, 0, none⟩, c3 := 2 }) := HX.out.on hb
        clear y0 y1 y10 y2 y3 y4 y5 y6 y7 y8 y9
        clear hb
        obtain ⟨y0, y1, y2, y3, y4, y5, y6, y7, y8, y9, y10⟩ := HX.out.row.mat
        go_wp2_with fail
        refine (HM.out _ p _ 0 2 false HX.out HW.out.1 HW.out.2.2.1 (meet02 x y)).mono ?_
        rintro e v3 ⟨rfl, hb⟩
        replace HX : Hid (Mb W v3 p (two x y) { a with s3 := some ⟨gW, 0, none⟩, c3 := 2 }) := HX.out.on hb
        clear y0 y1 y10 y2 y3 y4 y5 y6 y7 y8 y9
        clear hb
        obtain ⟨y0, y1, y2, y3, y4, y5, y6, y7, y8, y9, y10⟩ := HX.out.row.mat
        go_wp2_with fail
        refine (HM.out _ p _ (-1) 0 false HX.out HW.out.2.2.2 HW.out.1 (meetm x y)).mono ?_
        rintro e v4 ⟨rfl, hb⟩
        replace HX : Hid (Mb W v4 p (two x y) { a with s3 := some ⟨gW, 0, none⟩, c3 := 2 }) := HX.out.on hb
        clear y0 y1 y10 y2 y3 y4 y5 y6 y7 y8 y9
        clear hb
        go_wp2
        go_ret
        exact ⟨rfl, HX.out.bel⟩
end Go.Proofs.YtdaiooelglablaaDoor.checkMeets
