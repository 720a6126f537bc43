/- Package queue, landed: what waits lies in a channel, behind a lock: New, Len, Put, Take. -/
import Derived.Test.YtkgeknkppnadfaaVa
import Derived.Test.YtkgeknkppnadfaaVl
import Derived.Deep.CutBlock
import Derived.WalkMore
namespace Go.Proofs.Ytkgeknkppnadfaa
open Go.RowKit Go.WideShapes
set_option linter.unusedVariables false
def bufV (l : List Vq.Dl) : Array Value := (l.map dV).toArray
theorem bufV_size (l : List Vq.Dl) : (bufV l).size = l.length := by simp [bufV]
theorem bufV_push (l : List Vq.Dl) (d : Vq.Dl) : (bufV l).push (dV d) = bufV (l ++ [d]) := by simp [bufV]
theorem bufV_tail (l : List Vq.Dl) : (bufV l).extract 1 (bufV l).size = bufV l.tail := by
  cases l with
  | nil => rfl
  | cons d l => simp [bufV, List.take_of_length_le]
theorem bufV_head (d : Vq.Dl) (l : List Vq.Dl) : (bufV (d :: l)).getD 0 undef = dV d := by simp [bufV]
/-- The queue at p, its channel at c, its lock in the state t. -/
structure Qc (t : Int) (w : World) (p c : Nat) (room : Nat) (l : List Vq.Dl) : Prop where
  ne : p ≠ c
  row : RowT 98 w p #[.int .i32 t, .int .u32 0, .chan (some c)]
  ch : ∃ sn rn, w.heap[c]? = some (.chan room (bufV l) false sn rn false)
def QueueAt : Ob.A Vq.St := fun w p F s => ∃ c, (∀ g, F g ↔ g = p ∨ g = c) ∧ Qc 0 w p c s.room s.l ∧ Vq.Ok s
section
variable {t : Int} {w w' : World} {p c room : Nat} {l : List Vq.Dl}
theorem Qc.lt (h : Qc t w p c room l) : p < w.heap.size ∧ c < w.heap.size := by
  obtain ⟨sn, rn, h2⟩ := h.ch
  exact ⟨h.row.lt, (Array.getElem?_eq_some_iff.1 h2).1⟩
theorem Qc.same (h : Qc t w p c room l) (h1 : w'.heap[p]? = w.heap[p]?) (h2 : w'.heap[c]? = w.heap[c]?) : Qc t w' p c room l := by
  obtain ⟨sn, rn, h3⟩ := h.ch
  exact ⟨h.ne, h1.trans h.row, sn, rn, h2.trans h3⟩
theorem Qc.on (h : Qc t w p c room l) (hb : Below w.heap.size w w') : Qc t w' p c room l := h.same (hb.block p h.lt.1) (hb.block c h.lt.2)
theorem Qc.kept {F : Nat → Prop} (h : Qc t w p c room l) (hk : Kept F w w') (h1 : ¬ F p) (h2 : ¬ F c) : Qc t w' p c room l := h.same (hk.block p h.lt.1 h1) (hk.block c h.lt.2 h2)
theorem setChan_kept (w : World) (c cap : Nat) (buf : Array Value) (cl : Bool) (s r : Nat) (tm : Bool) : Kept (fun g => g = c) w (w.setChan c cap buf cl s r tm) :=
  ⟨rfl, rfl, rfl, by simp [World.setChan], fun k hk hn => by simp only [World.setChan]; rw [Array.getElem?_setIfInBounds_ne (fun e => hn e.symm)]⟩
theorem Qc.put (h : Qc t w p c room l) (l' : List Vq.Dl) (sn rn : Nat) : Qc t (w.setChan c room (bufV l') false sn rn false) p c room l' := by
  have hk := setChan_kept w c room (bufV l') false sn rn false
  exact ⟨h.ne, (hk.block p h.lt.1 h.ne).trans h.row, sn, rn, Conc.heap_setChan _ _ _ _ _ _ _ _ h.lt.2⟩
theorem Qc.turned (h : Qc t w p c room l) (t' : Int) : Qc t' (w.setCell ⟨p, 0, none⟩ (.int .i32 t')) p c room l := by
  have hk := Kept.set (F := fun g => g = p) w ⟨p, 0, none⟩ (.int .i32 t') rfl
  obtain ⟨sn, rn, h3⟩ := h.ch
  exact ⟨h.ne, h.row.set 0 _, sn, rn, (hk.block c h.lt.2 (fun e => h.ne e.symm)).trans h3⟩
/-- The lock is taken. -/
theorem q_lock (h : Qc 0 w p c room l) : Calls Try.prog 46 #[Ob.ptr p] w fun e w' => e = .returned (.tuple #[]) ∧ Qc 1 w' p c room l ∧ Kept (fun g => g = p) w w' :=
  (lk_lock h.row rfl).mono fun e w' ⟨he, hw⟩ => ⟨he, hw ▸ h.turned 1, hw ▸ Kept.set (F := fun g => g = p) w ⟨p, 0, none⟩ (.int .i32 1) rfl⟩
theorem enter_unlock (w : World) (args : Array Value) : (invoke (.fn (.func 47) #[]) args).run Try.prog w = .ok (.enter 47 args) w := by simp [go_sem]
/-- The end behind the lock: it is given back, and the results are told. -/
theorem q_leave {fn : Func} {tmps : Array Value} {R : Ending → World → Prop} (h : Qc 1 w p c room l) (hk : ∀ w', Qc 0 w' p c room l → Kept (fun g => g = p) w w' → ∃ v, (results fn tmps).run Try.prog w' = .ok v w' ∧ R (.returned v) w') :
    Leaves Try.prog fn tmps R [⟨.fn (.func 47) #[], #[Ob.ptr p]⟩] .returning w := by
  refine leaves_cons (f := 47) (args := #[Ob.ptr p]) (by simp) (by simp [go_sem]) ?_
  refine (lk_unlock .returning h.row rfl).mono ?_
  rintro e u' w' ⟨rfl, rfl, rfl⟩
  exact hk _ (h.turned 0) (Kept.set (F := fun g => g = p) w ⟨p, 0, none⟩ (.int .i32 0) rfl)
end
theorem queue_is : Ob.Is QueueAt where
  on := fun ⟨c, hF, h, hO⟩ hk => ⟨c, hF, h.same (hk _ ((hF _).2 (Or.inl rfl))) (hk _ ((hF _).2 (Or.inr rfl))), hO⟩
  lt := fun ⟨c, hF, h, hO⟩ g hg => by
    rcases (hF g).1 hg with rfl | rfl
    · exact h.lt.1
    · exact h.lt.2
theorem len_chan {w : World} {c cap s r : Nat} {buf : Array Value} {closed : Bool} (ty : TypeId) (hc : w.heap[c]? = some (.chan cap buf closed s r false)) : (Builtin.len_ #[96] ty #[.chan (some c)]).run Try.prog w = .ok (goInt buf.size) w := Conc.run_len_chan _ ty Try.underlying96 hc
theorem cap_chan {w : World} {c cap s r : Nat} {buf : Array Value} {closed : Bool} (ty : TypeId) (hc : w.heap[c]? = some (.chan cap buf closed s r false)) : (Builtin.cap_ #[96] ty #[.chan (some c)]).run Try.prog w = .ok (goInt cap) w := Conc.run_cap_chan _ ty Try.underlying96 hc
theorem mk_chan (w : World) (n : Nat) (hn : n ≤ 4) : (Instr.makeChan 96 (.int .i64 (n : Int))).run Try.prog w = .ok (.chan (some w.heap.size)) (w.alloc (.chan n #[] false 0 0 false)) := by
  have h : (Try.prog.info? 43).map (·.bytes) = some 24 := by kernel_rfl
  obtain ⟨i, hi, hb⟩ := Option.map_eq_some_iff.1 h
  exact Conc.run_makeChan Try.underlying96 hi .i64 n (by omega) (by rw [hb]; omega)
set_option maxRecDepth 100000 in
set_option maxHeartbeats 1000000 in
theorem qk_hold (w : World) (n : Int) (k : Nat) (hn : n = (k : Int)) (hk : k ≤ 4) : Calls Try.prog 43 #[.int .i64 n] w fun e w' => ∃ p c, e = .returned (Ob.ptr p) ∧ Qc 0 w' p c k [] ∧ w.heap.size ≤ p ∧ w.heap.size ≤ c ∧ Below w.heap.size w w' := by
  subst hn
  have hm : ∀ W, (Instr.makeChan 96 (.int .i64 (k : Int))).run Try.prog W = .ok (.chan (some W.heap.size)) (W.alloc (.chan k #[] false 0 0 false)) := fun W => mk_chan W k hk
  go_enter Try.func43, Try.ntmps43
  go_wp2
  go_ret
  have hs : (w.alloc (.chan k #[] false 0 0 false)).heap.size = w.heap.size + 1 := by simp
  refine ⟨w.heap.size + 1, w.heap.size, rfl, ⟨by omega, ?_, 0, 0, ?_⟩, by omega, by omega, ((Below.refl _ _).alloc (Nat.le_refl _) _).alloc (by simp) _⟩
  · have := RowT.new 98 (w.alloc (.chan k #[] false 0 0 false)) #[.int .i32 0, .int .u32 0, .chan (some w.heap.size)]
    rwa [hs] at this
  · rw [Below.heap_alloc _ _ _ (by simp)]
    exact heap_alloc_new w _
set_option maxRecDepth 100000 in
set_option maxHeartbeats 1000000 in
theorem qk_new (w : World) (r : Int) (hr : (Lit.int .i64 r).wf = true) : Ob.Makes Try.prog QueueAt 25 #[.int .i64 r] w ⟨Vq.held r, []⟩ := by
  obtain ⟨k, hk⟩ : ∃ k, Vq.held r = k := ⟨_, rfl⟩
  obtain ⟨k1, k2⟩ := Vq.held_rng r
  rw [hk] at k1 k2 ⊢
  have e : min (max r 1) 4 = (k : Int) := by rw [← hk]; unfold Vq.held; omega
  clear hk
  unfold Ob.Makes
  go_enter Try.func25, Try.ntmps25
  go_wp2_with (go_at_call 43; refine (qk_hold _ _ k rfl k2).mono ?_; rintro e2 w2 ⟨p, c, rfl, hq, hp, hc, hb⟩)
  go_ret
  exact ⟨p, fun g => g = p ∨ g = c, rfl, ⟨c, fun g => Iff.rfl, hq, ⟨k1, k2, Nat.zero_le _⟩⟩, fun g hg => by rcases hg with rfl | rfl <;> assumption, hb⟩
set_option maxRecDepth 100000 in
set_option maxHeartbeats 1000000 in
theorem qk_len (w : World) (p : Nat) (F : Nat → Prop) (s : Vq.St) (h : QueueAt w p F s) : Ob.Turns Try.prog QueueAt 38 #[Ob.ptr p] w p F s (.int .i64 (s.l.length : Int)) := by
  obtain ⟨c, hF, hq, hO⟩ := h
  have HQ : Hid (Qc 0 w p c s.room s.l) := hq
  have HF : Hid ((∀ g, F g ↔ g = p ∨ g = c) ∧ Vq.Ok s) := ⟨hF, hO⟩
  clear hF hq hO
  unfold Ob.Turns
  go_enter_defers Try.func38, Try.ntmps38
  go_wp2_with (go_at_call 46; refine (q_lock HQ.out).mono ?_; rintro e w1 ⟨rfl, hq1, hk1⟩; have HQ1 : Hid (Qc 1 w1 p c s.room s.l) := hq1; have HK1 : Hid (Kept (fun g => g = p) w w1) := hk1; obtain ⟨sn, rn, hc⟩ := hq1.ch; have c0 := hq1.row.c 2 _ rfl; have hl := len_chan 3 hc; rw [bufV_size] at hl; clear hq1 hk1 hc)
  refine q_leave HQ1.out fun w2 h2 k2 => ⟨_, results_tmp rfl _ _ _, rfl, F, ⟨c, HF.out.1, h2, HF.out.2⟩, fun g hg => Or.inl hg, ?_⟩
  have hp : ∀ g, g = p → F g := fun g e => (HF.out.1 g).2 (Or.inl e)
  exact (HK1.out.mono hp).trans (k2.mono hp) (fun g hg => Or.inl hg)
end Go.Proofs.Ytkgeknkppnadfaa
