/- Code that communicates, in one goroutine: the walk's rules for frames that are no start-up code's; regions taken operation by operation. Nothing of the program is in it. -/
import Derived.Test.YtkgeknkppnadfaaU2
import Derived.Conc.LoneCalls
import Derived.Conc.LoneSelectN
import Derived.Conc.LoneSelect
import Derived.Orders
namespace Go.Proofs.Ytkgeknkppnadfaa.Vn
open Go.RowKit Go.Conc
set_option linter.unusedVariables false
def NWp (P : Program) (c : Code) (Q : Exit → Act → World → Prop) (a : Act) (w : World) : Prop :=
  ∀ (b : Frame) (k : List Item) (cs : List Frame), b.kind ≠ .early → ∃ e a' w', Q e a' w' ∧ Arrives P (lone (b.at a (.code c :: k)) cs w) b k cs e a' w'
section
variable {P : Program} {Q : Exit → Act → World → Prop} {a : Act} {w : World}
theorem of_wp {c : Code} (h : c.wp P Q a w) : NWp P c Q a w := fun b k cs _ => h b k cs
theorem mono {c : Code} {Q' : Exit → Act → World → Prop} (h : NWp P c Q a w) (hq : ∀ e a w, Q e a w → Q' e a w) : NWp P c Q' a w :=
  fun b k cs hb => let ⟨e, a', w', q, r⟩ := h b k cs hb; ⟨e, a', w', hq _ _ _ q, r⟩
theorem then_else {K : Act → World → Prop} {e : Exit} (h : Exit.then K Q e a w) (he : e ≠ .normal) : Q e a w := by
  cases e <;> first | exact absurd rfl he | exact h
theorem seq {x y : Code} (h : NWp P x (Exit.then (fun a w => NWp P y Q a w) Q) a w) : NWp P (.seq x y) Q a w := by
  intro b k cs hb
  obtain ⟨e, a1, w1, hq, ha⟩ := h b (.code y :: k) cs hb
  by_cases he : e = .normal
  · subst he
    obtain ⟨e2, a2, w2, hq2, ha2⟩ := (show NWp P y Q a1 w1 from hq) b k cs hb
    exact ⟨e2, a2, w2, hq2, .of_steps (.head step_seq ha) ha2⟩
  · exact ⟨e, a1, w1, then_else hq he, .of_steps (.one step_seq) (.pass (x := .code y) rfl (fun _ _ => .inl he) ha)⟩
theorem cond {c : Operand} {x y : Code} (t : Bool) (hc : a.eval c = .bool t) (h : NWp P (if t then x else y) Q a w) : NWp P (.cond c x y) Q a w := fun b k cs hb =>
  let ⟨e, a', w', q, r⟩ := h b k cs hb
  ⟨e, a', w', q, .of_steps (.one (step_cond hc)) r⟩
theorem condT {c : Operand} {x y : Code} (hc : a.eval c = .bool true) (h : NWp P x Q a w) : NWp P (.cond c x y) Q a w := cond true hc h
theorem condF {c : Operand} {x y : Code} (hc : a.eval c = .bool false) (h : NWp P y Q a w) : NWp P (.cond c x y) Q a w := cond false hc h
theorem block {id : Nat} {c : Code} (h : NWp P c (Exit.inBlock id Q) a w) : NWp P (.block id c) Q a w := by
  intro b k cs hb
  obtain ⟨e, a1, w1, hq, ha⟩ := h b (.inBlock id :: k) cs hb
  have hs {m' : Machine} (h : Steps P (lone (b.at a (.code c :: .inBlock id :: k)) cs w) m') : Steps P (lone (b.at a (.code (.block id c) :: k)) cs w) m' := .head step_block h
  cases e with
  | normal => exact ⟨.normal, a1, w1, hq, hs (Steps.trans ha (.one step_inBlock))⟩
  | exit j =>
    by_cases hj : j = id
    · subst hj
      have hq' : Q .normal a1 w1 := by simpa [Exit.inBlock] using hq
      exact ⟨.normal, a1, w1, hq', hs (ha k (by simp [exitTo]))⟩
    · have hq' : Q (.exit j) a1 w1 := by simpa [Exit.inBlock, hj] using hq
      refine ⟨.exit j, a1, w1, hq', fun k' hk => hs (ha k' ?_)⟩
      have hne : (id == j) = false := beq_eq_false_iff_ne.2 (fun e => hj e.symm)
      simp [exitTo, hne, hk]
  | goto l => exact ⟨.goto l, a1, w1, hq, fun k' hk => hs (ha k' (by simp [gotoIn, hk]))⟩
  | ret => exact ⟨.ret, a1, w1, hq, .of_steps (.one step_block) ha⟩
  | panic ch => exact ⟨.panic ch, a1, w1, hq, .of_steps (.one step_block) ha⟩
  | outgrown => exact ⟨.outgrown, a1, w1, hq, .of_steps (b := b) (k := k) (cs := cs) (e := .outgrown) (.one step_block) ha⟩
/-- A loop: 'I n' holds ahead of each round, n grows less. -/
theorem loop {c : Code} (I : Nat → Act → World → Prop) (round : ∀ n a w, I n a w → NWp P c (Exit.then (fun a' w' => ∃ n', n' < n ∧ I n' a' w') Q) a w) : ∀ n a w, I n a w → NWp P (.loop c) Q a w := by
  have key : ∀ n a w, I n a w → ∀ (b : Frame) (k : List Item) (cs : List Frame), b.kind ≠ .early → ∃ e a' w', Q e a' w' ∧ Arrives P (lone (b.at a (.code c :: .inLoop c :: k)) cs w) b k cs e a' w' := by
    intro n
    induction n using Nat.strongRecOn with
    | _ n ih =>
      intro a w hI b k cs hb
      obtain ⟨e, a1, w1, hq, ha⟩ := round n a w hI b (.inLoop c :: k) cs hb
      by_cases he : e = .normal
      · subst he
        obtain ⟨n', hn, hI'⟩ := (show ∃ n', n' < n ∧ I n' a1 w1 from hq)
        obtain ⟨e2, a2, w2, hq2, ha2⟩ := ih n' hn a1 w1 hI' b k cs hb
        exact ⟨e2, a2, w2, hq2, .of_steps (Steps.trans ha (.one step_inLoop)) ha2⟩
      · exact ⟨e, a1, w1, then_else hq he, .pass (x := .inLoop c) rfl (fun _ _ => .inl he) ha⟩
  intro n a w hI b k cs hb
  obtain ⟨e, a', w', hq, ha⟩ := key n a w hI b k cs hb
  exact ⟨e, a', w', hq, .of_steps (.one step_loop) ha⟩
/-- What is left of a region. -/
def Reg (P : Program) (ops : Array Oper) (Q : Exit → Act → World → Prop) (l : List Nat) (a : Act) (w : World) : Prop :=
  ∀ (b : Frame) (k : List Item) (cs : List Frame), b.kind ≠ .early → ∃ e a' w', Q e a' w' ∧ Arrives P (lone (b.at a (.inRegion ops l :: k)) cs w) b k cs e a' w'
theorem region {id : Nat} {ops : Array Oper} (l : List Nat) (hl : List.range ops.size = l) (h : Reg P ops Q l a w) : NWp P (.region id ops false) Q a w := fun b k cs hb => by
  subst hl
  obtain ⟨e, a', w', q, r⟩ := h b k cs hb
  exact ⟨e, a', w', q, .of_steps (.one step_region) r⟩
theorem Reg.nil {ops : Array Oper} (h : Q .normal a w) : Reg P ops Q [] a w := fun b k cs _ => ⟨.normal, a, w, h, .one step_region_end⟩
theorem Reg.skip {ops : Array Oper} {i : Nat} {rest : List Nat} {o : Oper} (ho : ops[i]? = some o) (hw : Region.wanted o (yielded ops a.tmps) = false) (h : Reg P ops Q rest (a.put o.dst undef) w) : Reg P ops Q (i :: rest) a w := fun b k cs hb => by
  obtain ⟨e, a', w', q, r⟩ := h b k cs hb
  have hs := step_op_skip (P := P) (b := b) (a := a) (k := k) (cs := cs) (w := w) (ops := ops) (i := i) (rest := rest) (by simp [ho, hw])
  simp only [ho, Option.bind_some] at hs
  exact ⟨e, a', w', q, .of_steps (.one hs) r⟩
theorem finish (b : Frame) {ops : Array Oper} {i : Nat} {rest : List Nat} {k : List Item} {o : Oper} (ho : ops[i]? = some o) (v : Value) : (b.at a (.inRegion ops (i :: rest) :: k)).finish v = b.at (a.put o.dst v) (.inRegion ops rest :: k) := by
  rw [Frame.finish_at, ho]
  rfl
/-- An operation that ends in a value. -/
theorem Reg.val {ops : Array Oper} {i : Nat} {rest : List Nat} {o : Oper} {v : Value} {w1 : World} (ho : ops[i]? = some o) (hw : Region.wanted o (yielded ops a.tmps) = true) (hr : (execOp a.eval o).run P w = .ok (.value v) w1) (h : Reg P ops Q rest (a.put o.dst v) w1) : Reg P ops Q (i :: rest) a w := fun b k cs hb => by
  obtain ⟨e, a', w', q, r⟩ := h b k cs hb
  have hg := stepG_op (P := P) (b := b) (k := k) (cs := cs) (w := w) (rest := rest) ho hw
  refine ⟨e, a', w', q, .of_steps (.one (step_lone_go ?_)) r⟩
  rw [hg, ← finish b ho v]
  simp [stepG.apply, hr]
theorem Reg.none_ {ops : Array Oper} {i : Nat} {rest : List Nat} {o : Oper} {w1 : World} (ho : ops[i]? = some o) (hw : Region.wanted o (yielded ops a.tmps) = true) (hr : (execOp a.eval o).run P w = .ok .skip w1) (h : Reg P ops Q rest (a.put o.dst undef) w1) : Reg P ops Q (i :: rest) a w := fun b k cs hb => by
  obtain ⟨e, a', w', q, r⟩ := h b k cs hb
  have hg := stepG_op (P := P) (b := b) (k := k) (cs := cs) (w := w) (rest := rest) ho hw
  refine ⟨e, a', w', q, .of_steps (.one (step_lone_go ?_)) r⟩
  rw [hg, ← finish b ho undef]
  simp [stepG.apply, hr]
/-- A call, by its contract. -/
theorem Reg.call {ops : Array Oper} {i : Nat} {rest : List Nat} {o : Oper} {f : FuncId} {args : Array Value} {w1 : World} {R : Value → World → Prop} (ho : ops[i]? = some o) (hw : Region.wanted o (yielded ops a.tmps) = true) (hr : (execOp a.eval o).run P w = .ok (.enter f args) w1) (hc : Calls P f args w1 fun e w' => ∃ v, e = .returned v ∧ R v w') (h : ∀ v w', R v w' → Reg P ops Q rest (a.put o.dst v) w') : Reg P ops Q (i :: rest) a w := fun b k cs hb => by
  have hg := stepG_op (P := P) (b := b) (k := k) (cs := cs) (w := w) (rest := rest) ho hw
  obtain ⟨_, w2, fr, ⟨v, rfl, hR⟩, hsteps, _, hleave⟩ := hc (b.at a (.inRegion ops (i :: rest) :: k) :: cs)
  obtain ⟨e, a', w', q, r⟩ := h v w2 hR b k cs hb
  have henter : step P (lone (b.at a (.inRegion ops (i :: rest) :: k)) cs w) = .next (lone (Frame.enter P f args .normal) (b.at a (.inRegion ops (i :: rest) :: k) :: cs) w1) := step_lone_go (by rw [hg]; simp [stepG.apply, hr, Frame.at])
  refine ⟨e, a', w', q, .of_steps (.head henter (Steps.trans hsteps (.one ?_))) r⟩
  rw [← finish b ho v]
  exact step_leave_returned hleave
/-- A communication, by a step of the machine. -/
theorem Reg.comm {ops : Array Oper} {i : Nat} {rest : List Nat} {o : Oper} {v : Value} {w1 : World} (ho : ops[i]? = some o) (hs : ∀ (b : Frame) (k : List Item) (cs : List Frame), b.kind ≠ .early → step P (solo (G (b.at a (.inRegion ops (i :: rest) :: k)) cs) w) = .next (solo (G ((b.at a (.inRegion ops (i :: rest) :: k)).finish v) cs) w1)) (h : Reg P ops Q rest (a.put o.dst v) w1) : Reg P ops Q (i :: rest) a w := fun b k cs hb => by
  obtain ⟨e, a', w', q, r⟩ := h b k cs hb
  have h1 := hs b k cs hb
  rw [finish b ho v] at h1
  exact ⟨e, a', w', q, .of_steps (.one h1) r⟩
section
variable {ops : Array Oper} {i : Nat} {rest : List Nat} {o : Oper} {w1 : World} {c cap s r : Nat} {buf : Array Value} {z z' v : Value} {tm closed : Bool}
theorem Reg.send (ho : ops[i]? = some o) (hw : Region.wanted o (yielded ops a.tmps) = true) (hr : (execOp a.eval o).run P w = .ok (.comm #[scase c v z'] true .send) w) (hc : w.heap[c]? = some (.chan cap buf false s r tm)) (hroom : buf.size < cap) (h : Reg P ops Q rest (a.put o.dst undef) (w.setChan c cap (buf.push v) false (s + 1) r tm)) : Reg P ops Q (i :: rest) a w :=
  .comm ho (fun b k cs hb => step_lone_send_room (stepG_comm ho hw hb hr) hc hroom) h
theorem Reg.recv (ok : Bool) (ho : ops[i]? = some o) (hw : Region.wanted o (yielded ops a.tmps) = true) (hr : (execOp a.eval o).run P w = .ok (.comm #[rcase c z] true (.recv ok)) w) (hc : w.heap[c]? = some (.chan cap buf closed s r tm)) (hsome : 0 < buf.size) (h : Reg P ops Q rest (a.put o.dst (got ok (buf.getD 0 undef) true)) (w.setChan c cap (buf.extract 1 buf.size) closed s (r + 1) tm)) : Reg P ops Q (i :: rest) a w :=
  .comm ho (fun b k cs hb => step_lone_recv_buf ok (stepG_comm ho hw hb hr) hc hsome) h
theorem Reg.selSend (ho : ops[i]? = some o) (hw : Region.wanted o (yielded ops a.tmps) = true) (hr : (execOp a.eval o).run P w = .ok (.comm #[scase c v z'] false .select) w) (hc : w.heap[c]? = some (.chan cap buf false s r tm)) (hroom : buf.size < cap) (h : Reg P ops Q rest (a.put o.dst (.tuple #[goInt 0, .bool false])) (w.setChan c cap (buf.push v) false (s + 1) r tm)) : Reg P ops Q (i :: rest) a w :=
  .comm ho (fun b k cs hb => step_lone_select_send_room (stepG_comm ho hw hb hr) hc hroom) h
theorem Reg.selFull (ho : ops[i]? = some o) (hw : Region.wanted o (yielded ops a.tmps) = true) (hr : (execOp a.eval o).run P w = .ok (.comm #[scase c v z'] false .select) w) (hc : w.heap[c]? = some (.chan cap buf false s r tm)) (hfull : cap ≤ buf.size) (h : Reg P ops Q rest (a.put o.dst (.tuple #[goInt (-1), .bool false])) w) : Reg P ops Q (i :: rest) a w :=
  .comm ho (fun b k cs hb => step_lone_select_send_full (stepG_comm ho hw hb hr) hc hfull) h
theorem Reg.selRecv (ho : ops[i]? = some o) (hw : Region.wanted o (yielded ops a.tmps) = true) (hr : (execOp a.eval o).run P w = .ok (.comm #[rcase c z] false .select) w) (hc : w.heap[c]? = some (.chan cap buf closed s r tm)) (hsome : 0 < buf.size) (h : Reg P ops Q rest (a.put o.dst (.tuple #[goInt 0, .bool true, buf.getD 0 undef])) (w.setChan c cap (buf.extract 1 buf.size) closed s (r + 1) tm)) : Reg P ops Q (i :: rest) a w :=
  .comm ho (fun b k cs hb => step_lone_select_recv_buf (stepG_comm ho hw hb hr) hc hsome) h
theorem Reg.selEmpty (ho : ops[i]? = some o) (hw : Region.wanted o (yielded ops a.tmps) = true) (hr : (execOp a.eval o).run P w = .ok (.comm #[rcase c z] false .select) w) (hc : w.heap[c]? = some (.chan cap #[] false s r tm)) (h : Reg P ops Q rest (a.put o.dst (.tuple #[goInt (-1), .bool false, z])) w) : Reg P ops Q (i :: rest) a w :=
  .comm ho (fun b k cs hb => step_lone_select_default (stepG_comm ho hw hb hr) hc) h
end
/-- What is left of a region, by the common walk. -/
theorem Reg.tail {ops : Array Oper} (k n : Nat) (hk : k + n = ops.size) (h : wpList P ops Q (ops.toList.drop k) a w) : Reg P ops Q (List.range' k n) a w := fun b kk cs _ => by
  have hl : (ops.toList.drop k).length = n := by rw [List.length_drop, Array.length_toList]; omega
  have e := wpOps_eq_wpList (P := P) (ops := ops) (Q := Q) (ops.toList.drop k) k (fun j => by rw [List.getElem?_drop]; simp)
  rw [hl] at e
  exact wp_ops _ a w (by rw [e]; exact h) b kk cs
/-- One operation, whatever is behind it. -/
def Op1 (P : Program) (ops : Array Oper) (Q : Exit → Act → World → Prop) (i : Nat) (K : Act → World → Prop) (a : Act) (w : World) : Prop := ∀ rest, (∀ a w, K a w → Reg P ops Q rest a w) → Reg P ops Q (i :: rest) a w
/-- A region that draws: whatever comes up. -/
def Any (P : Program) (md : Region.Mode) (ops : Array Oper) (Q : Exit → Act → World → Prop) : Nat → Array Bool → Act → World → Prop
  | 0, listed, a, w => Region.ready md ops listed = [] ∧ Q .normal a w
  | n + 1, listed, a, w => (Region.ready md ops listed = [] → Q .normal a w) ∧ ∀ i ∈ Region.ready md ops listed, Op1 P ops Q i (fun a w => Any P md ops Q n (listed.setIfInBounds i true) a w) a w
theorem Any.sound {md : Region.Mode} {ops : Array Oper} : ∀ (n t : Nat) (listed : Array Bool) (a : Act) (w : World), Any P md ops Q n listed a w → Reg P ops Q (Region.linearise.go md ops n t listed []) a w := by
  intro n
  induction n with
  | zero =>
    intro t listed a w h
    rw [Region.linearise.go]
    exact Reg.nil h.2
  | succ n ih =>
    intro t listed a w h
    obtain ⟨h0, h1⟩ := h
    rw [Region.linearise.go]
    show Reg P ops Q (match (Region.ready md ops listed)[t % (Region.ready md ops listed).length]? with
      | some i => Region.linearise.go md ops n (t / (Region.ready md ops listed).length) (listed.setIfInBounds i true) [i]
      | none => [].reverse) a w
    generalize hL : Region.ready md ops listed = L at h0 h1 ⊢
    cases hi : L[t % L.length]? with
    | none =>
      obtain rfl : L = [] := by
        cases L with
        | nil => rfl
        | cons x xs =>
          have hlt : t % (x :: xs).length < (x :: xs).length := Nat.mod_lt _ (by simp)
          rw [List.getElem?_eq_none_iff] at hi
          omega
      exact Reg.nil (h0 rfl)
    | some i =>
      dsimp only
      rw [linearise_go_acc]
      exact h1 i (List.mem_of_getElem? hi) _ (fun a w hA => ih _ _ a w hA)
theorem regionD {id : Nat} {ops : Array Oper} (hm : P.follows .mixedOrders = true) (h : Any P .any ops Q ops.size (Array.replicate ops.size false) a w.drew) : NWp P (.region id ops true) Q a w := fun b k cs hb => by
  have hr : Reg P ops Q (Region.schedule (P.follows .mixedOrders) ops (w.tape w.drawn (.order b.fn id))) a w.drew := by
    simp only [Region.schedule, hm, Bool.true_or, if_true]
    exact Any.sound ops.size _ _ a _ h
  obtain ⟨e, a', w', q, r⟩ := hr b k cs hb
  exact ⟨e, a', w', q, .of_steps (.one step_region_draw) r⟩
theorem Any.cons {md : Region.Mode} {ops : Array Oper} {n : Nat} {listed : Array Bool} (L : List Nat) (hL : Region.ready md ops listed = L) (hne : L ≠ []) (h : ∀ i ∈ L, Op1 P ops Q i (fun a w => Any P md ops Q n (listed.setIfInBounds i true) a w) a w) : Any P md ops Q (n + 1) listed a w := by
  subst hL
  exact ⟨fun e => absurd e hne, h⟩
theorem Any.done {md : Region.Mode} {ops : Array Oper} {listed : Array Bool} (hr : Region.ready md ops listed = []) (h : Q .normal a w) : ∀ n, Any P md ops Q n listed a w
  | 0 => ⟨hr, h⟩
  | _ + 1 => ⟨fun _ => h, by rw [hr]; simp⟩
theorem Op1.val {ops : Array Oper} {i : Nat} {o : Oper} {v : Value} {w1 : World} {K : Act → World → Prop} (ho : ops[i]? = some o) (hw : Region.wanted o (yielded ops a.tmps) = true) (hr : (execOp a.eval o).run P w = .ok (.value v) w1) (h : K (a.put o.dst v) w1) : Op1 P ops Q i K a w := fun rest hK => .val ho hw hr (hK _ _ h)
theorem Op1.send {ops : Array Oper} {i : Nat} {o : Oper} {c cap s r : Nat} {buf : Array Value} {z' v : Value} {tm : Bool} {K : Act → World → Prop} (ho : ops[i]? = some o) (hw : Region.wanted o (yielded ops a.tmps) = true) (hr : (execOp a.eval o).run P w = .ok (.comm #[scase c v z'] true .send) w) (hc : w.heap[c]? = some (.chan cap buf false s r tm)) (hroom : buf.size < cap) (h : K (a.put o.dst undef) (w.setChan c cap (buf.push v) false (s + 1) r tm)) : Op1 P ops Q i K a w := fun rest hK => .send ho hw hr hc hroom (hK _ _ h)
end
theorem calls {P : Program} {f : FuncId} {fn : Func} {c : Code} {args : Array Value} {w : World} {R : Ending → World → Prop} (hf : P.funcs[f]? = some fn) (hb : fn.body = some c)
    (h : NWp P c (bodyPost P fn R) { tmps := args ++ Array.replicate (fn.ntmps - args.size) undef, defers := [] } w) : Calls P f args w R := by
  intro cs
  let b : Frame := { (default : Frame) with fn := f, kind := .normal }
  have henter : Frame.enter P f args .normal = b.at { tmps := args ++ Array.replicate (fn.ntmps - args.size) undef, defers := [] } [.code c] := by
    simp [Frame.enter, Frame.at, hf, hb, b]
  have hk : b.kind ≠ .early := by simp [b]
  obtain ⟨e, a', w', hq, ha⟩ := h b [] cs hk
  rw [← henter] at ha
  cases e with
  | normal =>
    obtain ⟨hd, v, hr, hR⟩ := hq
    exact ⟨.returned v, w', _, hR, Steps.trans ha (.one step_end), rfl, rfl, hd, rfl, fn, hf, hr⟩
  | ret =>
    obtain ⟨hd, v, hr, hR⟩ := hq
    obtain ⟨todo, hs⟩ := ha
    exact ⟨.returned v, w', _, hR, hs, rfl, rfl, hd, rfl, fn, hf, hr⟩
  | panic chain =>
    obtain ⟨hd, hR⟩ := hq
    obtain ⟨todo, hs⟩ := ha
    exact ⟨.panicked chain, w', _, hR, hs, rfl, rfl, hd, fn, hf⟩
  | exit id => exact hq.elim
  | goto l => exact hq.elim
  | outgrown => exact ⟨.outgrown, w', b, hq, ha.resolve_left hk, rfl, trivial⟩
end Go.Proofs.Ytkgeknkppnadfaa.Vn
