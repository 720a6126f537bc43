/- Layer 17: the document's queue: NewQueue, Put, Take. -/
import Derived.Test.YtkgeknkppnadfaaVe
import Derived.Deep.CutBlock
namespace Go.Proofs.Ytkgeknkppnadfaa
open Go.RowKit Go.WideShapes
set_option linter.unusedVariables false
theorem row_ne17 {w : World} {g g' : Nat} {c c' : Array Value} {t t' : TypeId} (h : RowT t w g c) (h' : RowT t' w g' c') (ht : t ≠ t') : g ≠ g' := fun e => by
  subst e
  have h1 : w.heap[g]? = some (.cells c t (0, 0)) := h
  have h2 : w.heap[g]? = some (.cells c' t' (0, 0)) := h'
  rw [h1] at h2
  injection h2 with h2
  injection h2 with _ e
  exact ht e
theorem ol_ne17 {e : TypeId} {sz B : Nat} {w : World} {s : Option Addr} {c n : Nat} {C : List Value} (h : Sg.OL e sz B w s c n C) {T : TypeId} {p : Nat} {cs : Array Value} (hr : RowT T w p cs) (hT : T ≠ e) : ¬ Sg.At_ s c p := fun ⟨h0, e1⟩ => by
  obtain ⟨g, o, cur, e2, _, hh⟩ := h.ty h0
  rw [e2] at e1
  injection e1 with e1
  dsimp only at e1
  subst e1
  exact row_ne17 (show RowT e w g cur from hh) hr (fun k => hT k.symm) rfl
theorem elDel : Sg.El Try.prog 47 43 2 (.agg #[.int .i64 0, .string ByteArray.empty]) 24 := ⟨Try.underlying47, by kernel_rfl, rfl, by decide⟩
theorem dC_flat (l : List Vq.Dl) : ∀ u ∈ l.flatMap dC, u.oneCell' = true := fun u hu => by
  obtain ⟨d, _, hd⟩ := List.mem_flatMap.1 hu
  simp only [dC, List.mem_cons, List.not_mem_nil, or_false] at hd
  rcases hd with rfl | rfl <;> rfl
theorem dC_len (l : List Vq.Dl) : (l.flatMap dC).length = l.length * 2 := by
  induction l with
  | nil => rfl
  | cons d l ih => rw [List.flatMap_cons, List.length_append, ih, List.length_cons, Nat.succ_mul]; show 2 + _ = _; omega
/-- Where a list lies: where another one did, or behind so many blocks. -/
def Loc (a : Option Addr) (c k : Nat) (a' : Option Addr) (c' : Nat) : Prop := ∀ g, Sg.At_ a' c' g → Sg.At_ a c g ∨ k ≤ g
/-- The document's queue at a block: its row, and a list that can be read and was made behind B. -/
structure Rq (B : Nat) (w : World) (r : Nat) (s : Vq.St) (a : Option Addr) (c : Nat) : Prop where
  row : RowT 49 w r #[.int .i64 (s.room : Int), .slice a s.l.length c]
  ol : Sg.OL 43 2 B w a c s.l.length (s.l.flatMap dC)
theorem Rq.on {B : Nat} {w w' : World} {r : Nat} {s : Vq.St} {a : Option Addr} {c : Nat} (h : Rq B w r s a c) (hb : Below w.heap.size w w') : Rq B w' r s a c := ⟨h.row.on hb, h.ol.on hb⟩
set_option maxRecDepth 100000 in
set_option maxHeartbeats 4000000 in
theorem rq_new (w : World) (x : Int) : Calls Try.prog 26 #[.int .i64 x] w fun e w' => ∃ r, e = .returned (Ob.ptr r) ∧ w.heap.size ≤ r ∧ Rq w.heap.size w' r ⟨Vq.held x, []⟩ none 0 ∧ Below w.heap.size w w' := by
  obtain ⟨k, hk⟩ : ∃ k : Nat, Vq.held x = k := ⟨_, rfl⟩
  rw [hk]
  have hm : max 1 (min x 4) = (k : Int) := by rw [← hk]; unfold Vq.held; omega
  have HE : Hid (∀ v : Int, v = (k : Int) → RowT 49 (w.alloc (.cells #[.int .i64 v, .slice none 0 0] 49)) w.heap.size #[.int .i64 (k : Int), .slice none 0 0]) := fun v hv => by subst hv; exact RowT.new _ _ _
  have HF : Hid (∀ v : Int, Below w.heap.size w (w.alloc (.cells #[.int .i64 v, .slice none 0 0] 49))) := fun v => (Below.refl _ _).alloc (Nat.le_refl _) _
  clear hk
  by_cases h4 : x ≤ 4
  · have h4' : ¬ (4 < x) := by omega
    by_cases h1 : 1 ≤ x
    · have h1' : ¬ (x < 1) := by omega
      have EK : Hid (x = (k : Int)) := by show _ = _; omega
      clear hm
      go_enter Try.func26, Try.ntmps26
      go_wp2
      all_goals
        go_ret
        exact ⟨_, rfl, Nat.le_refl _, ⟨HE.out _ (by have := EK.out; omega), Sg.OL.nil _ _ _ _⟩, HF.out _⟩
    · have h1' : x < 1 := by omega
      have EK : Hid ((1 : Int) = (k : Int)) := by show _ = _; omega
      clear hm
      go_enter Try.func26, Try.ntmps26
      go_wp2
      all_goals
        go_ret
        exact ⟨_, rfl, Nat.le_refl _, ⟨HE.out _ (by have := EK.out; omega), Sg.OL.nil _ _ _ _⟩, HF.out _⟩
  · have h4' : 4 < x := by omega
    have EK : Hid ((4 : Int) = (k : Int)) := by show _ = _; omega
    clear hm
    go_enter Try.func26, Try.ntmps26
    go_wp2
    all_goals
      go_ret
      exact ⟨_, rfl, Nat.le_refl _, ⟨HE.out _ (by have := EK.out; omega), Sg.OL.nil _ _ _ _⟩, HF.out _⟩
set_option maxRecDepth 100000 in
set_option maxHeartbeats 4000000 in
theorem rq_put (B : Nat) (w : World) (r : Nat) (s : Vq.St) (a : Option Addr) (c : Nat) (m : Int) (D : ByteArray) (hB : B ≤ w.heap.size) (hok : Vq.Ok s) (h : Rq B w r s a c) : Calls Try.prog 33 #[Ob.ptr r, .int .i64 m, .string D] w fun e w' => e = .returned (.int .i64 (Vq.putE s)) ∧ ∃ a' c', Rq B w' r (Vq.putS s ⟨m, D⟩) a' c' ∧ Loc a c w.heap.size a' c' ∧ Kept (fun j => j = r) w w' := by
  obtain ⟨k1, k4, kl⟩ := hok
  obtain ⟨n, hn⟩ : ∃ n, s.l.length = n := ⟨_, rfl⟩
  have HR : Hid (∀ w', Below w.heap.size w w' → RowT 49 w' r #[.int .i64 (s.room : Int), .slice a n c]) := fun w' hb => by have := (h.on hb).row; rwa [hn] at this
  have HH : Hid (Rq B w r s a c) := h
  have HC : Hid (∀ w', Below w.heap.size w w' → w'.cell? ⟨r, 0, none⟩ = some (.int .i64 (s.room : Int)) ∧ w'.cell? ⟨r, 1, none⟩ = some (.slice a n c)) := fun w' hb => ⟨(HR.out w' hb).c 0 _ rfl, (HR.out w' hb).c 1 _ rfl⟩
  have nb : (n : Int) ≤ 4 := by omega
  have rb : (s.room : Int) ≤ 4 := by omega
  clear h
  by_cases hlt : n < s.room
  · have e1 : Vq.putE s = 0 := by unfold Vq.putE; rw [hn, if_pos hlt]
    have e2 : Vq.putS s ⟨m, D⟩ = { s with l := s.l ++ [⟨m, D⟩] } := by unfold Vq.putS; rw [hn, if_pos hlt]
    rw [e1, e2]
    have g1 : ¬ ((s.room : Int) ≤ (n : Int)) := by omega
    have g2 : ¬ (s.room ≤ n) := by omega
    have g3 : n < s.room := hlt
    clear e1 e2
    go_enter Try.func33, Try.ntmps33
    go_wp2_with fail
    go_cut [16] from 7 to 16 (fun v wx => v = .bool false ∧ Hid (Below w.heap.size w wx))
    case first =>
      refine Lw.wp_region_quiet_below (by kernel_rfl) (by kernel_rfl) ?_
      repeat (first
        | go_big_quiet_skip
        | (go_big_quiet_want; go_big_quiet_op; go_big_quiet_on)
        | (go_big_quiet_want; go_big_quiet_op; apply Exists.intro; refine ⟨fun _ hb' => ?_, ?_⟩; (first
          | exact Lw.val_rfl _
          | (simp [go_sem, (HC.out _ hb').1]; rfl)
          | (simp [go_sem, (HC.out _ hb').2]; rfl)); go_big_quiet_on))
      refine wpQuiet_nil ?_
      intro wz hbz
      go_wp2_with fail
      go_meet
      case rel => exact ⟨rfl, hbz⟩
    case rest =>
      obtain ⟨rfl, HBz⟩ := hcut
      have hq := HC.out wc HBz.out
      obtain ⟨_, q1⟩ := hq
      have HS0 : Hid (Src Try.prog 2 47 (.slice a n c) n (s.l.flatMap dC) wc) := Sg.src_li Try.underlying47 (by have := (HH.out.on HBz.out).ol.sl.li; rwa [hn] at this) (by rw [dC_len, hn]) (dC_flat _)
      have HR0 : Hid (RowT 49 wc r #[.int .i64 (s.room : Int), .slice a n c]) := HR.out wc HBz.out
      have HBc : Hid (w.heap.size ≤ wc.heap.size) := HBz.out.size
      clear HC HR
      go_upto_region 4 with (first
        | (refine Sg.wpList_appendO elDel rfl (.const (.slice none 0 0)) (.tmp 21) 47 rfl rfl rfl (Sg.OL.nil 43 2 w.heap.size _) HBc.out HS0.out (show 0 + n ≤ 1000000 by omega) ?_; intro s1 k1' n1 u1 hn1 h1 hk1; rw [Nat.zero_add] at hn1; obtain rfl : n = n1 := hn1.symm; rw [List.nil_append] at h1; have HK1 : Hid (Kept (fun _ => False) wc u1) := hk1.mono (fun g hg => absurd hg.1 (Nat.lt_irrefl 0)); have HO1 : Hid (Sg.OL 43 2 w.heap.size u1 s1 k1' n (s.l.flatMap dC)) := h1; clear h1 hk1)
        | (refine Sg.wpList_appendO elDel rfl (.tmp 22) (.tmp 26) 47 rfl rfl rfl (HO1.out.on ((Below.refl _ _).alloc (Nat.le_refl _) _)) (Nat.le_trans (Nat.le_trans HBc.out HK1.out.size) (by simp)) (Sg.src_new Try.underlying47 u1 43 2 1 [.int .i64 m, .string D] rfl (fun u hu => by simp at hu; rcases hu with rfl | rfl <;> rfl)) (show n + 1 ≤ 1000000 by omega) ?_; intro s2 k2 n2 u2 hn2 h2 hk2; have HO2 : Hid (Sg.OL 43 2 w.heap.size u2 s2 k2 n2 (s.l.flatMap dC ++ [.int .i64 m, .string D])) := h2; have HN2 : Hid (n2 = n + 1) := hn2; have HK2 : Hid (Kept (Sg.At_ s1 k1') (u1.alloc (.cells #[.int .i64 m, .string D] 43)) u2) := hk2; have hr2 : RowT 49 u2 r #[.int .i64 (s.room : Int), .slice a n c] := (HO1.out.on ((Below.refl _ _).alloc (Nat.le_refl _) _)).row hk2 ((HR0.out.kept HK1.out (fun f => f)).on ((Below.refl _ _).alloc (Nat.le_refl _) _)) (by decide); have c1 : u2.cell? ⟨r, 1, none⟩ = some (.slice a n c) := hr2.c 1 _ rfl; have f1 : u2.frozen? ⟨r, 1, none⟩ = false := hr2.f 1; have HR2 : Hid (RowT 49 u2 r #[.int .i64 (s.room : Int), .slice a n c]) := hr2; clear h2 hn2 hk2 hr2))
      have hks : Kept (fun j => j = r) u2 (u2.setCell ⟨r, 1, none⟩ (.slice s2 n2 k2)) := Kept.set _ _ _ rfl
      have hnl : n2 = (s.l ++ [⟨m, D⟩] : List Vq.Dl).length := by rw [List.length_append, hn]; exact HN2.out
      have HF1 : Hid (Rq B (u2.setCell ⟨r, 1, none⟩ (.slice s2 n2 k2)) r { s with l := s.l ++ [⟨m, D⟩] } s2 k2) := by
        refine ⟨?_, ?_⟩
        · have h := HR2.out.set 1 (.slice s2 n2 k2)
          rw [hnl] at h ⊢
          exact h
        · have h := (HO2.out.kept hks (fun g hg e => by subst e; exact ol_ne17 HO2.out HR2.out (by decide) hg)).mono hB
          rw [hnl] at h ⊢
          rw [List.flatMap_append]
          exact h
      have HF2 : Hid (Kept (fun j => j = r) w (u2.setCell ⟨r, 1, none⟩ (.slice s2 n2 k2))) := by
        have k1 : Kept (fun j => j = r) w wc := Kept.of_below HBz.out
        have k2' := k1.trans HK1.out (fun g hg => hg.elim)
        have k3 := k2'.trans (Kept.of_below (F := fun _ => False) (show Below u1.heap.size u1 (u1.alloc (.cells #[.int .i64 m, .string D] 43)) from (Below.refl _ _).alloc (Nat.le_refl _) _)) (fun g hg => hg.elim)
        have k4' := k3.trans HK2.out (fun g hg => Or.inr (by
          obtain ⟨g1, o1, cur, e2, hBg, _⟩ := HO1.out.ty hg.1
          have e3 := hg.2
          rw [e2] at e3
          injection e3 with e3
          dsimp only at e3
          rw [← e3]
          exact hBg))
        exact k4'.trans hks (fun g hg => Or.inl hg)
      have HF3 : Loc a c w.heap.size s2 k2 := fun g hg => Or.inr (by
        obtain ⟨g1, o1, cur, e2, hBg, _⟩ := HO2.out.ty hg.1
        have e3 := hg.2
        rw [e2] at e3
        injection e3 with e3
        dsimp only at e3
        rw [← e3]
        exact hBg)
      clear hks hnl HO1 HO2 HN2 HK1 HK2 HR2 c1 f1 HS0 HR0 HBc HBz HH q1
      generalize u2.setCell ⟨r, 1, none⟩ (.slice s2 n2 k2) = wf at HF1 HF2 ⊢
      go_wp2
      go_ret
      first | exact ⟨rfl, ⟨s2, k2, HF1.out, HF3⟩, HF2.out⟩ | exact ⟨rfl, s2, k2, HF1.out, HF3, HF2.out⟩
  · have e1 : Vq.putE s = 170 := by unfold Vq.putE; rw [hn, if_neg hlt]
    have e2 : Vq.putS s ⟨m, D⟩ = s := by unfold Vq.putS; rw [hn, if_neg hlt]
    rw [e1, e2]
    have g1 : (s.room : Int) ≤ (n : Int) := by omega
    have g2 : s.room ≤ n := by omega
    clear e1 e2
    go_enter Try.func33, Try.ntmps33
    go_wp2_with fail
    go_cut [16] from 7 to 16 (fun v wx => v = .bool true ∧ Hid (Below w.heap.size w wx))
    case first =>
      refine Lw.wp_region_quiet_below (by kernel_rfl) (by kernel_rfl) ?_
      repeat (first
        | go_big_quiet_skip
        | (go_big_quiet_want; go_big_quiet_op; go_big_quiet_on)
        | (go_big_quiet_want; go_big_quiet_op; apply Exists.intro; refine ⟨fun _ hb' => ?_, ?_⟩; (first
          | exact Lw.val_rfl _
          | (simp [go_sem, (HC.out _ hb').1]; rfl)
          | (simp [go_sem, (HC.out _ hb').2]; rfl)); go_big_quiet_on))
      refine wpQuiet_nil ?_
      intro wz hbz
      go_wp2_with fail
      go_meet
      case rel => exact ⟨rfl, hbz⟩
    case rest =>
      obtain ⟨rfl, HBz⟩ := hcut
      go_wp2
      go_ret
      first | exact ⟨rfl, ⟨a, c, HH.out.on HBz.out, fun g hg => Or.inl hg⟩, Kept.of_below HBz.out⟩ | exact ⟨rfl, a, c, HH.out.on HBz.out, (fun g hg => Or.inl hg), Kept.of_below HBz.out⟩
end Go.Proofs.Ytkgeknkppnadfaa
