/- The document's own time for all, over its text. -/
import Derived.Test.YtpdeimnjmhgdgaaA2
import Derived.Test.YtpdeimnjmhgdgaaRg
import Derived.Test.YtpdeimnjmhgdgaaU2
import Derived.OwnWalk
import Derived.Deep.CutBlock
namespace Go.Proofs.Ytpdeimnjmhgdgaa
open Go.RowKit Go.WideShapes
set_option linter.unusedVariables false
def rgC (who : Int) (g m og om n : Nat) : Array Value := #[.int .i64 who, .int .u16 (g : Int), .int .u16 (m : Int), .int .u16 (og : Int), .int .u16 (om : Int), .int .i64 (n : Int)]
/-- What lies in the cells: those of a beat that there isn't are whatever they are. -/
def RgFit (s : Gq.St) (who : Int) (g m og om n : Nat) : Prop := match s with
  | .no => n = 0
  | .one b => n = 1 ∧ b = ⟨who, g, m⟩
  | .more b og' om' n' => n = n' ∧ b = ⟨who, g, m⟩ ∧ og' = og ∧ om' = om
def RgAt : Ob.A Gq.St := fun w p F s => F = (fun j => j = p) ∧ (∃ who g m og om n, RowT 29 w p (rgC who g m og om n) ∧ RgFit s who g m og om n) ∧ Gq.Ok s
theorem rgIs : Ob.Is RgAt where
  on := by
    rintro w w' p F c ⟨rfl, ⟨who, g, m, og, om, n, h, hf⟩, ok⟩ hk
    exact ⟨rfl, ⟨who, g, m, og, om, n, (hk p rfl).trans h, hf⟩, ok⟩
  lt := by
    rintro w p F c ⟨rfl, ⟨who, g, m, og, om, n, h, hf⟩, ok⟩ g rfl
    exact h.lt
theorem rg_new (w : World) : RgAt (w.alloc (.cells (rgC 0 0 0 0 0 0) 29)) w.heap.size (fun j => j = w.heap.size) .no := ⟨rfl, ⟨0, 0, 0, 0, 0, 0, RowT.new _ _ _, rfl⟩, trivial⟩
theorem RgAt.steady {w : World} {p : Nat} {F : Nat → Prop} {s : Gq.St} (h : RgAt w p F s) : w.cell? ⟨p, 5, none⟩ = some (.int .i64 (Gq.steady s : Int)) := by
  obtain ⟨rfl, ⟨who, g, m, og, om, n, h, hf⟩, ok⟩ := h
  have c5 : w.cell? ⟨p, 5, none⟩ = some (.int .i64 (n : Int)) := h.c 5 _ rfl
  cases s with
  | no => have e : n = 0 := hf; subst e; exact c5
  | one b => have e : n = 1 := hf.1; subst e; exact c5
  | more b x y z => have e : n = z := hf.1; subst e; exact c5
/-- The state whose the cells are: nothing is left open but what there isn't. -/
theorem rg_open {w : World} {p : Nat} {F : Nat → Prop} {s : Gq.St} (h : RgAt w p F s) : F = (fun j => j = p) ∧ Gq.Ok s ∧ ∃ who g m og om n, RowT 29 w p (rgC who g m og om n) ∧ RgFit s who g m og om n := ⟨h.1, h.2.2, h.2.1⟩
set_option maxRecDepth 100000 in
set_option maxHeartbeats 4000000 in
/-- A beat behind one of the same. -/
theorem rgb_more (w : World) (p : Nat) (who : Int) (g m og om n : Nat) (g2 m2 : Nat) (hn : 0 < n) (hn2 : n ≤ 1000) (hr : RowT 29 w p (rgC who g m og om n)) : Calls Try.prog 12 #[Ob.ptr p, .int .i64 who, .int .u16 (g2 : Int), .int .u16 (m2 : Int), .bool false] w fun e w' => e = .returned (.tuple #[]) ∧ RowT 29 w' p (rgC who g2 m2 g m (min 1000 (n + 1))) ∧ Kept (fun j => j = p) w w' := by
  obtain ⟨M, hM⟩ : ∃ M, min 1000 (n + 1) = M := ⟨_, rfl⟩
  have hm0 : min 1000 ((n : Int) + 1) = (M : Int) := by omega
  rw [hM]
  have c0 : w.cell? ⟨p, 0, none⟩ = some (.int .i64 who) := hr.c 0 _ rfl
  have c1 : w.cell? ⟨p, 1, none⟩ = some (.int .u16 (g : Int)) := hr.c 1 _ rfl
  have c2 : w.cell? ⟨p, 2, none⟩ = some (.int .u16 (m : Int)) := hr.c 2 _ rfl
  have c5 : w.cell? ⟨p, 5, none⟩ = some (.int .i64 (n : Int)) := hr.c 5 _ rfl
  have c3 : w.cell? ⟨p, 3, none⟩ = some (.int .u16 (og : Int)) := hr.c 3 _ rfl
  have c4 : w.cell? ⟨p, 4, none⟩ = some (.int .u16 (om : Int)) := hr.c 4 _ rfl
  have f0 := hr.f 0
  have f1 := hr.f 1
  have f2 := hr.f 2
  have f3 := hr.f 3
  have f4 := hr.f 4
  have f5 := hr.f 5
  have ni : (0 : Int) < (n : Int) := by omega
  have HM : Hid (RowT 29 w p (rgC who g m og om n)) := hr
  clear hr hM hn
  go_enter Try.func12, Try.ntmps12
  go_wp2_with fail
  go_cut [] from 27 (fun wx => Hid (RowT 29 wx p (rgC who g m g m n)) ∧ Hid (Kept (fun j => j = p) w wx))
  case first =>
    go_region
    all_goals
      go_wp2_with fail
      go_meet
      case rel => exact ⟨(RowT.set (show RowT 29 w.drew p (rgC who g m og om n) from HM.out) 3 _).set 4 _, (Kept.drew _ _).sets.sets⟩
  case rest =>
    obtain ⟨HM1, HK1⟩ := hcut
    clear HM c0 c1 c2 c3 c4 c5 f0 f1 f2 f3 f4 f5
    have c0 : wc.cell? ⟨p, 0, none⟩ = some (.int .i64 who) := HM1.out.c 0 _ rfl
    have c1 : wc.cell? ⟨p, 1, none⟩ = some (.int .u16 (g : Int)) := HM1.out.c 1 _ rfl
    have c2 : wc.cell? ⟨p, 2, none⟩ = some (.int .u16 (m : Int)) := HM1.out.c 2 _ rfl
    have c5 : wc.cell? ⟨p, 5, none⟩ = some (.int .i64 (n : Int)) := HM1.out.c 5 _ rfl
    have f0 := HM1.out.f 0
    have f1 := HM1.out.f 1
    have f2 := HM1.out.f 2
    have f5 := HM1.out.f 5
    go_wp2
    go_end0
    exact ⟨rfl, (((HM1.out.set 5 _).set 0 _).set 1 _).set 2 _, HK1.out.sets.sets.sets.sets⟩
set_option maxRecDepth 100000 in
set_option maxHeartbeats 1000000 in
/-- A beat that begins anew. -/
theorem rgb_one (w : World) (p : Nat) (wo who : Int) (g m og om n : Nat) (g2 m2 : Nat) (dd : Bool) (hc : ¬ (0 < n ∧ wo = who ∧ dd = false)) (hr : RowT 29 w p (rgC wo g m og om n)) : Calls Try.prog 12 #[Ob.ptr p, .int .i64 who, .int .u16 (g2 : Int), .int .u16 (m2 : Int), .bool dd] w fun e w' => e = .returned (.tuple #[]) ∧ RowT 29 w' p (rgC who g2 m2 og om 1) ∧ Kept (fun j => j = p) w w' := by
  have c0 : w.cell? ⟨p, 0, none⟩ = some (.int .i64 wo) := hr.c 0 _ rfl
  have c1 : w.cell? ⟨p, 1, none⟩ = some (.int .u16 (g : Int)) := hr.c 1 _ rfl
  have c2 : w.cell? ⟨p, 2, none⟩ = some (.int .u16 (m : Int)) := hr.c 2 _ rfl
  have c5 : w.cell? ⟨p, 5, none⟩ = some (.int .i64 (n : Int)) := hr.c 5 _ rfl
  have f0 := hr.f 0
  have f1 := hr.f 1
  have f2 := hr.f 2
  have f5 := hr.f 5
  have HM : Hid (RowT 29 w p (rgC wo g m og om n)) := hr
  clear hr
  have hend : ∀ w', w' = (((w.setCell ⟨p, 5, none⟩ (.int .i64 1)).setCell ⟨p, 0, none⟩ (.int .i64 who)).setCell ⟨p, 1, none⟩ (.int .u16 (g2 : Int))).setCell ⟨p, 2, none⟩ (.int .u16 (m2 : Int)) → RowT 29 w' p (rgC who g2 m2 og om 1) ∧ Kept (fun j => j = p) w w' := fun w' e => by
    subst e
    exact ⟨(((HM.out.set 5 _).set 0 _).set 1 _).set 2 _, (Kept.refl _ _).sets.sets.sets.sets⟩
  have HE : Hid (∀ w', w' = (((w.setCell ⟨p, 5, none⟩ (.int .i64 1)).setCell ⟨p, 0, none⟩ (.int .i64 who)).setCell ⟨p, 1, none⟩ (.int .u16 (g2 : Int))).setCell ⟨p, 2, none⟩ (.int .u16 (m2 : Int)) → RowT 29 w' p (rgC who g2 m2 og om 1) ∧ Kept (fun j => j = p) w w') := hend
  clear hend HM
  by_cases h0 : n = 0
  · subst h0
    clear hc
    go_enter Try.func12, Try.ntmps12
    go_wp2
    go_end0
    exact ⟨rfl, HE.out _ rfl⟩
  · have ni : (0 : Int) < (n : Int) := by omega
    by_cases h1 : wo = who
    · have h2 : dd = true := by
        cases dd with
        | true => rfl
        | false => exact absurd ⟨by omega, h1, rfl⟩ hc
      subst h1 h2
      clear hc h0
      go_enter Try.func12, Try.ntmps12
      go_wp2
      go_end0
      exact ⟨rfl, HE.out _ rfl⟩
    · have h1' : (wo == who) = false := beq_eq_false_iff_ne.2 h1
      clear hc h0 h1
      go_enter Try.func12, Try.ntmps12
      go_wp2
      go_end0
      exact ⟨rfl, HE.out _ rfl⟩
theorem rg_beat (w : World) (p : Nat) (F : Nat → Prop) (s : Gq.St) (who : Int) (g m : Nat) (dd : Bool) (hg : g < 65536) (hm : m < 65536) (h : RgAt w p F s) : Ob.Turns Try.prog RgAt 12 #[Ob.ptr p, .int .i64 who, .int .u16 (g : Int), .int .u16 (m : Int), .bool dd] w p F (Gq.beat s who g m dd) (.tuple #[]) := by
  obtain ⟨rfl, ⟨wo, g0, m0, og, om, n, hr, hf⟩, ok⟩ := h
  have hok := Gq.ok_beat ok who hg hm dd
  unfold Ob.Turns
  cases s with
  | no =>
    have e : n = 0 := hf
    exact (rgb_one w p wo who g0 m0 og om n g m dd (fun z => by omega) hr).mono fun e w' ⟨he, h1, h2⟩ => ⟨he, _, ⟨rfl, ⟨_, _, _, _, _, _, h1, ⟨rfl, rfl⟩⟩, hok⟩, fun j hj => Or.inl hj, h2⟩
  | one b =>
    obtain ⟨e, hb⟩ : n = 1 ∧ b = ⟨wo, g0, m0⟩ := hf
    subst e hb
    by_cases hc : wo = who ∧ dd = false
    · obtain ⟨rfl, rfl⟩ := hc
      have hs : Gq.beat (.one ⟨wo, g0, m0⟩) wo g m false = .more ⟨wo, g, m⟩ g0 m0 2 := by unfold Gq.beat; dsimp only; rw [if_pos ⟨rfl, rfl⟩]
      rw [hs] at hok ⊢
      exact (rgb_more w p wo g0 m0 og om 1 g m (by decide) (by decide) hr).mono fun e w' ⟨he, h1, h2⟩ => ⟨he, _, ⟨rfl, ⟨_, _, _, _, _, _, h1, ⟨rfl, rfl, rfl, rfl⟩⟩, hok⟩, fun j hj => Or.inl hj, h2⟩
    · have hs : Gq.beat (.one ⟨wo, g0, m0⟩) who g m dd = .one ⟨who, g, m⟩ := by unfold Gq.beat; dsimp only; rw [if_neg hc]
      rw [hs] at hok ⊢
      exact (rgb_one w p wo who g0 m0 og om 1 g m dd (fun z => hc z.2) hr).mono fun e w' ⟨he, h1, h2⟩ => ⟨he, _, ⟨rfl, ⟨_, _, _, _, _, _, h1, ⟨rfl, rfl⟩⟩, hok⟩, fun j hj => Or.inl hj, h2⟩
  | more b x y z =>
    obtain ⟨e, hb, e1, e2⟩ : n = z ∧ b = ⟨wo, g0, m0⟩ ∧ x = og ∧ y = om := hf
    subst e hb e1 e2
    obtain ⟨_, _, _, k1, k2⟩ := ok
    by_cases hc : wo = who ∧ dd = false
    · obtain ⟨rfl, rfl⟩ := hc
      have hs : Gq.beat (.more ⟨wo, g0, m0⟩ x y n) wo g m false = .more ⟨wo, g, m⟩ g0 m0 (min 1000 (n + 1)) := by unfold Gq.beat; dsimp only; rw [if_pos ⟨rfl, rfl⟩]
      rw [hs] at hok ⊢
      exact (rgb_more w p wo g0 m0 x y n g m (by omega) k2 hr).mono fun e w' ⟨he, h1, h2⟩ => ⟨he, _, ⟨rfl, ⟨_, _, _, _, _, _, h1, ⟨rfl, rfl, rfl, rfl⟩⟩, hok⟩, fun j hj => Or.inl hj, h2⟩
    · have hs : Gq.beat (.more ⟨wo, g0, m0⟩ x y n) who g m dd = .one ⟨who, g, m⟩ := by unfold Gq.beat; dsimp only; rw [if_neg hc]
      rw [hs] at hok ⊢
      exact (rgb_one w p wo who g0 m0 x y n g m dd (fun z => hc z.2) hr).mono fun e w' ⟨he, h1, h2⟩ => ⟨he, _, ⟨rfl, ⟨_, _, _, _, _, _, h1, ⟨rfl, rfl⟩⟩, hok⟩, fun j hj => Or.inl hj, h2⟩
set_option maxRecDepth 100000 in
set_option maxHeartbeats 1000000 in
theorem rg_tell0 (w : World) (p : Nat) (t : Nat) (c5 : w.cell? ⟨p, 5, none⟩ = some (.int .i64 0)) : Ob.Looks Try.prog 19 #[Ob.ptr p, .int .u16 (t : Int)] w (.int .u16 (t : Int)) := by
  unfold Ob.Looks
  go_enter Try.func19, Try.ntmps19
  go_wp2
  go_ret
  exact ⟨rfl, Below.refl _ _⟩
set_option maxRecDepth 100000 in
set_option maxHeartbeats 1000000 in
theorem rg_tell1 (w : World) (p : Nat) (who : Int) (g m og om n t : Nat) (hg : g < 65536) (hm : m < 65536) (ht : t < 65536) (hn : 0 < n) (hr : RowT 29 w p (rgC who g m og om n)) : Ob.Looks Try.prog 19 #[Ob.ptr p, .int .u16 (t : Int)] w (.int .u16 (Gq.off ⟨who, g, m⟩ t : Int)) := by
  obtain ⟨D, hD⟩ : ∃ D, Ck.since m g = D := ⟨_, rfl⟩
  obtain ⟨X, hX⟩ : ∃ X, Gq.off ⟨who, g, m⟩ t = X := ⟨_, rfl⟩
  have e1 : IntKind.u16.wrap ((g : Int) - (m : Int)) = (D : Int) := by rw [IntKind.wrap_u16, ← hD]; unfold Ck.since; omega
  have e2 : IntKind.u16.wrap ((t : Int) + (D : Int)) = (X : Int) := by
    rw [IntKind.wrap_u16, ← hX, ← hD]
    show _ = (((t + (g + 65536 - m)) % 65536 : Nat) : Int)
    unfold Ck.since
    omega
  have c1 : w.cell? ⟨p, 1, none⟩ = some (.int .u16 (g : Int)) := hr.c 1 _ rfl
  have c2 : w.cell? ⟨p, 2, none⟩ = some (.int .u16 (m : Int)) := hr.c 2 _ rfl
  have c5 : w.cell? ⟨p, 5, none⟩ = some (.int .i64 (n : Int)) := hr.c 5 _ rfl
  have HC : Hid (∀ w', Below w.heap.size w w' → w'.cell? ⟨p, 1, none⟩ = some (.int .u16 (g : Int)) ∧ w'.cell? ⟨p, 2, none⟩ = some (.int .u16 (m : Int))) := fun w' hb => ⟨(hr.on hb).c 1 _ rfl, (hr.on hb).c 2 _ rfl⟩
  have n0 : ((n : Int) == 0) = false := beq_eq_false_iff_ne.2 (by omega)
  rw [hX]
  clear hD hX hg hm ht hn hr
  unfold Ob.Looks
  go_enter Try.func19, Try.ntmps19
  go_wp2_with fail
  refine Lw.wp_region_quiet_below (by kernel_rfl) (by kernel_rfl) ?_
  repeat (first
    | go_big_quiet_skip
    | (go_big_quiet_want; go_big_quiet_op; go_big_quiet_on)
    | (go_big_quiet_want; go_big_quiet_op; apply Exists.intro; refine ⟨fun _ hb' => ?_, ?_⟩; (first
      | exact Lw.val_rfl _
      | (simp [go_sem, (HC.out _ hb').1]; rfl)
      | (simp [go_sem, (HC.out _ hb').2]; rfl)); go_big_quiet_on))
  refine wpQuiet_nil ?_
  intro w2 hb2
  have HB2 : Hid (Below w.heap.size w w2) := hb2
  clear hb2 HC
  go_wp2
  go_ret
  exact ⟨rfl, HB2.out⟩
theorem rg_tell (w : World) (p : Nat) (F : Nat → Prop) (s : Gq.St) (t : Nat) (ht : t < 65536) (h : RgAt w p F s) : Ob.Looks Try.prog 19 #[Ob.ptr p, .int .u16 (t : Int)] w (.int .u16 (Gq.tell s t : Int)) := by
  have c5 := h.steady
  obtain ⟨rfl, ⟨wo, g0, m0, og, om, n, hr, hf⟩, ok⟩ := h
  cases s with
  | no => exact rg_tell0 w p t c5
  | one b =>
    obtain ⟨e, hb⟩ : n = 1 ∧ b = ⟨wo, g0, m0⟩ := hf
    subst e hb
    exact rg_tell1 w p wo g0 m0 og om 1 t ok.1 ok.2 ht (by decide) hr
  | more b x y z =>
    obtain ⟨e, hb, e1, e2⟩ : n = z ∧ b = ⟨wo, g0, m0⟩ ∧ x = og ∧ y = om := hf
    subst e hb e1 e2
    exact rg_tell1 w p wo g0 m0 x y n t ok.1.1 ok.1.2 ht (by have := ok.2.2.2.1; omega) hr
set_option maxRecDepth 100000 in
set_option maxHeartbeats 1000000 in
theorem rgsince_any (w : World) (a b : Nat) (ha : a < 65536) (hb : b < 65536) : Ob.Looks Try.prog 22 #[.int .u16 (a : Int), .int .u16 (b : Int)] w (.int .i64 (Ck.since a b : Int)) := by
  obtain ⟨D, hD⟩ : ∃ D, Ck.since a b = D := ⟨_, rfl⟩
  have e1 : IntKind.u16.wrap ((b : Int) - (a : Int)) = (D : Int) := by rw [IntKind.wrap_u16, ← hD]; unfold Ck.since; omega
  have e2 : (D : Int) ≤ 65535 := by rw [← hD]; unfold Ck.since; omega
  rw [hD]
  clear hD ha hb
  unfold Ob.Looks
  go_enter Try.func22, Try.ntmps22
  go_wp2
  go_ret
  exact ⟨rfl, Below.refl _ _⟩
set_option maxRecDepth 100000 in
set_option maxHeartbeats 1000000 in
theorem rg_lens0 (w : World) (p : Nat) (n : Nat) (hn : n < 2) (c5 : w.cell? ⟨p, 5, none⟩ = some (.int .i64 (n : Int))) : Ob.Looks Try.prog 15 #[Ob.ptr p] w (.tuple #[.int .i64 0, .int .i64 0, .bool false]) := by
  have ni : (n : Int) < 2 := by omega
  clear hn
  unfold Ob.Looks
  go_enter Try.func15, Try.ntmps15
  go_wp2
  go_ret3
  exact ⟨rfl, Below.refl _ _⟩
set_option maxRecDepth 100000 in
set_option maxHeartbeats 1000000 in
theorem rg_lens1 (w : World) (p : Nat) (who : Int) (g m og om n : Nat) (hg : g < 65536) (hm : m < 65536) (h1 : og < 65536) (h2 : om < 65536) (hn : 2 ≤ n) (hr : RowT 29 w p (rgC who g m og om n)) : Ob.Looks Try.prog 15 #[Ob.ptr p] w (.tuple #[.int .i64 (Ck.since og g : Int), .int .i64 (Ck.since om m : Int), .bool true]) := by
  have HS1 : Hid (∀ w, Calls Try.prog 22 #[.int .u16 (og : Int), .int .u16 (g : Int)] w fun e w' => e = .returned (.int .i64 (Ck.since og g : Int)) ∧ Below w.heap.size w w') := fun w => rgsince_any w og g h1 hg
  have HS2 : Hid (∀ w, Calls Try.prog 22 #[.int .u16 (om : Int), .int .u16 (m : Int)] w fun e w' => e = .returned (.int .i64 (Ck.since om m : Int)) ∧ Below w.heap.size w w') := fun w => rgsince_any w om m h2 hm
  generalize Ck.since og g = A at *
  generalize Ck.since om m = B at *
  have c5 : w.cell? ⟨p, 5, none⟩ = some (.int .i64 (n : Int)) := hr.c 5 _ rfl
  have HC : Hid (∀ w', Below w.heap.size w w' → w'.cell? ⟨p, 1, none⟩ = some (.int .u16 (g : Int)) ∧ w'.cell? ⟨p, 2, none⟩ = some (.int .u16 (m : Int)) ∧ w'.cell? ⟨p, 3, none⟩ = some (.int .u16 (og : Int)) ∧ w'.cell? ⟨p, 4, none⟩ = some (.int .u16 (om : Int))) := fun w' hb => ⟨(hr.on hb).c 1 _ rfl, (hr.on hb).c 2 _ rfl, (hr.on hb).c 3 _ rfl, (hr.on hb).c 4 _ rfl⟩
  have ni : ¬ ((n : Int) < 2) := by omega
  clear hg hm h1 h2 hn hr
  unfold Ob.Looks
  go_enter Try.func15, Try.ntmps15
  go_wp2_with fail
  refine Lw.wp_region_quiet_below (by kernel_rfl) (by kernel_rfl) ?_
  repeat (first
    | go_big_quiet_skip
    | (go_big_quiet_want; go_big_quiet_op; go_big_quiet_on)
    | (go_big_quiet_want; go_big_quiet_op; apply Exists.intro; refine ⟨fun _ hb' => ?_, ?_⟩; (first
      | exact Lw.val_rfl _
      | (go_at_call 22; first | exact Lw.calls_below hb' (HS1.out _) | exact Lw.calls_below hb' (HS2.out _))
      | (simp [go_sem, (HC.out _ hb').1]; rfl)
      | (simp [go_sem, (HC.out _ hb').2.1]; rfl)
      | (simp [go_sem, (HC.out _ hb').2.2.1]; rfl)
      | (simp [go_sem, (HC.out _ hb').2.2.2]; rfl)); go_big_quiet_on))
  refine wpQuiet_nil ?_
  intro w2 hb2
  have HB2 : Hid (Below w.heap.size w w2) := hb2
  clear hb2 HC
  go_wp2
  go_ret3
  exact ⟨rfl, HB2.out⟩
theorem rg_lens (w : World) (p : Nat) (F : Nat → Prop) (s : Gq.St) (h : RgAt w p F s) : Ob.Looks Try.prog 15 #[Ob.ptr p] w (.tuple #[.int .i64 (Gq.la s : Int), .int .i64 (Gq.lb s : Int), .bool (Gq.lo s)]) := by
  have c5 := h.steady
  obtain ⟨rfl, ⟨wo, g0, m0, og, om, n, hr, hf⟩, ok⟩ := h
  cases s with
  | no => exact rg_lens0 w p 0 (by decide) c5
  | one b => exact rg_lens0 w p 1 (by decide) c5
  | more b x y z =>
    obtain ⟨e, hb, e1, e2⟩ : n = z ∧ b = ⟨wo, g0, m0⟩ ∧ x = og ∧ y = om := hf
    subst e hb e1 e2
    exact rg_lens1 w p wo g0 m0 x y n ok.1.1 ok.1.2 ok.2.1 ok.2.2.1 ok.2.2.2.1 hr
set_option maxRecDepth 100000 in
set_option maxHeartbeats 2000000 in
theorem rg_rate (w : World) (p : Nat) (F : Nat → Prop) (s : Gq.St) (num : Int) (h : RgAt w p F s) : Ob.Looks Try.prog 17 #[Ob.ptr p, .int .i64 num] w (.tuple #[.int .i64 (Gq.rate s num), .bool (Gq.can s num)]) := by
  have HL : Hid (Calls Try.prog 15 #[Ob.ptr p] w fun e w' => e = .returned (.tuple #[.int .i64 (Gq.la s : Int), .int .i64 (Gq.lb s : Int), .bool (Gq.lo s)]) ∧ Below w.heap.size w w') := rg_lens w p F s h
  have hlo : Gq.lo s = false → Gq.la s = 0 := fun e => by
    cases s with
    | no => rfl
    | one b => rfl
    | more b x y z => cases e
  have l1 := Gq.la_lt s
  have l2 := Gq.lb_lt s
  unfold Gq.rate Gq.can
  generalize Gq.la s = A at *
  generalize Gq.lb s = B at *
  generalize Gq.lo s = o at *
  clear h
  unfold Ob.Looks
  by_cases hc : A ≠ 0 ∧ B ≠ 0 ∧ 1 ≤ num ∧ num ≤ 1000000
  · rw [decide_eq_true hc, if_pos rfl]
    obtain ⟨h1, h2, h3, h4⟩ := hc
    have ho : o = true := by cases o with | true => rfl | false => exact absurd (hlo rfl) h1
    subst ho
    obtain ⟨M, rfl⟩ := Int.eq_ofNat_of_zero_le (show 0 ≤ num by omega)
    obtain ⟨T, hT⟩ : ∃ T, M * B = T := ⟨_, rfl⟩
    have t0 : (M : Int) * (B : Int) = (T : Int) := by rw [← hT]; simp
    have t1 : T ≤ 65536000000 := by rw [← hT]; exact Nat.le_trans (Nat.mul_le_mul (by omega : M ≤ 1000000) (by omega : B ≤ 65536)) (by decide)
    obtain ⟨Q, hQ⟩ : ∃ Q, T / A = Q := ⟨_, rfl⟩
    have q0 : (T : Int).tdiv (A : Int) = (Q : Int) := by rw [Int.tdiv_eq_ediv_of_nonneg (by omega), ← hQ]; simp
    have q1 : Q ≤ 65536000000 := by rw [← hQ]; exact Nat.le_trans (Nat.div_le_self _ _) t1
    rw [t0, q0]
    have a0 : ((A : Int) == 0) = false := beq_eq_false_iff_ne.2 (by omega)
    have a1 : (A : Int) ≠ 0 := by omega
    have b0 : ((B : Int) == 0) = false := beq_eq_false_iff_ne.2 (by omega)
    have m1 : ¬ ((M : Int) < 1) := by omega
    have m2 : ¬ ((1000000 : Int) < (M : Int)) := by omega
    clear hT hQ hlo h1 h2 l1 l2
    go_enter Try.func17, Try.ntmps17
    go_wp2_with fail
    refine HL.out.mono ?_
    rintro e w1 ⟨rfl, hb1⟩
    have HB : Hid (Below w.heap.size w w1) := hb1
    clear hb1 HL
    go_wp2
    go_ret2
    exact ⟨rfl, HB.out⟩
  · rw [decide_eq_false hc, if_neg (by simp)]
    cases o with
    | false =>
      clear hc hlo l1 l2
      go_enter Try.func17, Try.ntmps17
      go_wp2_with fail
      refine HL.out.mono ?_
      rintro e w1 ⟨rfl, hb1⟩
      have HB : Hid (Below w.heap.size w w1) := hb1
      clear hb1 HL
      go_wp2
      go_ret2
      exact ⟨rfl, HB.out⟩
    | true =>
      clear hlo
      by_cases a0 : A = 0
      · subst a0
        clear hc l1 l2
        go_enter Try.func17, Try.ntmps17
        go_wp2_with fail
        refine HL.out.mono ?_
        rintro e w1 ⟨rfl, hb1⟩
        have HB : Hid (Below w.heap.size w w1) := hb1
        clear hb1 HL
        go_wp2
        go_ret2
        exact ⟨rfl, HB.out⟩
      · have a0' : ((A : Int) == 0) = false := beq_eq_false_iff_ne.2 (by omega)
        by_cases b0 : B = 0
        · subst b0
          clear hc l1 l2 a0
          go_enter Try.func17, Try.ntmps17
          go_wp2_with fail
          refine HL.out.mono ?_
          rintro e w1 ⟨rfl, hb1⟩
          have HB : Hid (Below w.heap.size w w1) := hb1
          clear hb1 HL
          go_wp2
          go_ret2
          exact ⟨rfl, HB.out⟩
        · have b0' : ((B : Int) == 0) = false := beq_eq_false_iff_ne.2 (by omega)
          by_cases m1 : num < 1
          · clear hc l1 l2 a0 b0
            go_enter Try.func17, Try.ntmps17
            go_wp2_with fail
            refine HL.out.mono ?_
            rintro e w1 ⟨rfl, hb1⟩
            have HB : Hid (Below w.heap.size w w1) := hb1
            clear hb1 HL
            go_wp2
            go_ret2
            exact ⟨rfl, HB.out⟩
          · have m2 : 1000000 < num := by
              apply Classical.byContradiction
              intro hh
              exact hc ⟨a0, b0, by omega, by omega⟩
            clear hc l1 l2 a0 b0
            go_enter Try.func17, Try.ntmps17
            go_wp2_with fail
            refine HL.out.mono ?_
            rintro e w1 ⟨rfl, hb1⟩
            have HB : Hid (Below w.heap.size w w1) := hb1
            clear hb1 HL
            go_wp2
            go_ret2
            exact ⟨rfl, HB.out⟩
end Go.Proofs.Ytpdeimnjmhgdgaa
