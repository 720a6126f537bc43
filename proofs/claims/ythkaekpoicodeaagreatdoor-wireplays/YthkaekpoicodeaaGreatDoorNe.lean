/- Laws of the walk: a list of events laid behind a list of events that a call has made. -/
import Derived.Test.YthkaekpoicodeaaGreatDoorM4
import Derived.Deep.AppendLies
import Derived.Deep.Upon
namespace Go.Proofs.YthkaekpoicodeaaGreatDoor
open Go.RowKit
set_option linter.unusedVariables false
theorem evInfo : (Tryz.prog.info? 60).map (fun i => (i.zero, i.size, i.bytes)) = some (some (.agg #[.int .i64 0, .bool false, .int .u32 0, .bool false, .string ⟨#[]⟩, .int .i64 0]), 6, 48) := by kernel_rfl
theorem evC_one (l : List Mm.Ev) : ∀ u ∈ evC l, u.oneCell' = true := by
  intro u hu
  unfold evC at hu
  obtain ⟨v, _, hv⟩ := List.mem_flatMap.1 hu
  simp only [evV, List.mem_cons, List.not_mem_nil, or_false] at hv
  rcases hv with rfl | rfl | rfl | rfl | rfl | rfl <;> rfl
theorem evC_append (l l2 : List Mm.Ev) : evC (l ++ l2) = evC l ++ evC l2 := by unfold evC; rw [List.flatMap_append]
abbrev evA (v : Mm.Ev) (d : ByteArray) : Value := .agg #[.int .i64 (v.k : Int), .bool v.f.1, .int .u32 (v.f.2.1 : Int), .bool v.f.2.2.1, .string d, .int .i64 (v.e : Int)]
theorem EvAt.one {B : Nat} {w : World} {g : Nat} {v : Mm.Ev} (h : w.heap[g]? = some (.cells (evV v).toArray 60 (0, 0))) (hB : B ≤ g) : EvAt B w (some ⟨g, 0, none⟩) 1 [v] :=
  ⟨evC_length [v], Or.inr ⟨g, 1, (evV v).toArray, rfl, hB, h, Nat.le_refl _, (by decide), rfl, (by simp [evC, evV])⟩⟩
theorem EvAt.two {B : Nat} {w : World} {g : Nat} {u v : Mm.Ev} (h : w.heap[g]? = some (.cells (evV u ++ evV v).toArray 60 (0, 0))) (hB : B ≤ g) : EvAt B w (some ⟨g, 0, none⟩) 2 [u, v] :=
  ⟨evC_length [u, v], Or.inr ⟨g, 2, (evV u ++ evV v).toArray, rfl, hB, h, Nat.le_refl _, (by decide), rfl, (by simp [evC, evV])⟩⟩
theorem EvAt.empty (B : Nat) (w : World) : EvAt B w none 0 [] := ⟨rfl, Or.inl ⟨rfl, rfl⟩⟩
theorem EvAt.nil {B : Nat} {w : World} {s : Option Addr} {cap : Nat} (h : EvAt B w s cap []) : s = none ∧ cap = 0 ∨ ∃ g, s = some ⟨g, 0, none⟩ := by
  rcases h.2 with ⟨h1, _⟩ | ⟨g, c, cur, hv, _⟩
  · injection h1 with a b c; exact Or.inl ⟨a, c⟩
  · injection hv with a b c; exact Or.inr ⟨g, a⟩
theorem EvAt.cap {B : Nat} {w : World} {s : Option Addr} {cap : Nat} {l : List Mm.Ev} (h : EvAt B w s cap l) : l.length ≤ cap := by
  rcases h.2 with ⟨h1, h2⟩ | ⟨g, c, cur, hv, _, _, hc, _⟩
  · omega
  · injection hv with a b c; omega
theorem EvAt.zero {B : Nat} {w : World} {s : Option Addr} {cap : Nat} {l : List Mm.Ev} (h : EvAt B w s cap l) : ∀ g o, s = some ⟨g, o, none⟩ → o = 0 ∧ B ≤ g ∧ g < w.heap.size := by
  rintro g o rfl
  rcases h.2 with ⟨h1, _⟩ | ⟨g', c, cur, hv, hB, hh, _⟩
  · injection h1 with a b c; cases a
  · injection hv with a b c
    injection a with a
    injection a with a1 a2
    subst a1 a2
    exact ⟨rfl, hB, (Array.getElem?_eq_some_iff.1 hh).1⟩
theorem EvAt.plain {B : Nat} {w : World} {s : Option Addr} {cap : Nat} {l : List Mm.Ev} (h : EvAt B w s cap l) : ∀ q, s = some q → q.spot = none := by
  rintro q rfl
  rcases h.2 with ⟨h1, _⟩ | ⟨g', c, cur, hv, hB, hh, _⟩
  · injection h1 with a b c; cases a
  · injection hv with a b c
    injection a with a
    rw [a]
/-- append(a, b...) of events. -/
theorem run_append_ev (ty : TypeId) {B B2 : Nat} {w : World} {s s2 : Option Addr} {cap cap2 : Nat} {l l2 : List Mm.Ev} (h : EvAt B w s cap l) (h2 : EvAt B2 w s2 cap2 l2) (hB : B ≤ w.heap.size) (hl : l.length + l2.length ≤ 1000) :
    ∃ s' cap' w', (Builtin.append_ #[43, 43] ty #[.slice s l.length cap, .slice s2 l2.length cap2]).run Tryz.prog w = .ok (.slice s' (l.length + l2.length) cap') w' ∧ EvAt B w' s' cap' (l ++ l2) ∧
      w.grownBy w' (s.map (·.block)) ∧ (∀ g o, s' = some ⟨g, o, none⟩ → s = some ⟨g, o, none⟩ ∨ w.heap.size ≤ g) := by
  obtain ⟨i0, hi, hz0, hz1, hz2⟩ := info_parts evInfo
  by_cases h0 : l2 = []
  · subst h0
    have hsrc : Src Tryz.prog i0.size 43 (.slice s2 0 cap2) 0 [] w := by
      rcases h2.nil with ⟨rfl, rfl⟩ | ⟨g, rfl⟩
      · exact Src.ofNil w Tryz.underlying43 0
      · exact Src.ofSlice w Tryz.underlying43 _ 0 cap2 [] (by simp) (fun j u hu => by simp at hu) (fun u hu => by simp at hu)
    have hr := run_append_nothing (P := Tryz.prog) w 43 43 ty 60 i0 Tryz.underlying43 hi s l.length cap h.cap (.slice s2 0 cap2) hsrc
    refine ⟨s, cap, w, hr, ?_, ⟨rfl, rfl, rfl, Nat.le_refl _, fun _ _ _ => rfl⟩, fun g o e => Or.inl e⟩
    rw [List.append_nil]; exact h
  · obtain ⟨g2, rfl, hB2, hlt2, hcap2, hmax2, hc2⟩ := h2.spot h0
    have hpos : 0 < l2.length := List.length_pos_iff.2 h0
    obtain ⟨g, c', w', hr, hown, hgrow, hat, hlt⟩ := run_append_lies (P := Tryz.prog) w 43 ty B 60 i0 _ 6 48 Tryz.underlying43 hi hz0 hz1 hz2 rfl (by decide) (.slice s l.length cap) l.length (evC l) h ⟨g2, 0, none⟩ l2.length cap2 (evC l2) (evC_length l2)
      (fun j u hu => by
        have hadd : (⟨g2, 0, none⟩ : Addr).add j = ⟨g2, j, none⟩ := by unfold Addr.add; split <;> simp_all
        rw [hadd]; exact hc2 j u hu) (evC_one l2) hpos (by simp only [maxLen]; omega) (by omega) hB w.heap.size rfl
    refine ⟨some ⟨g, 0, none⟩, c', w', hr, ?_, ?_, ?_⟩
    · show World.ownsRow _ _ _ _ _ _ _
      rw [List.length_append, evC_append]; exact hown
    · have e : (Value.slice s l.length cap).ownBlock = s.map (·.block) := by cases s <;> rfl
      rw [← e]; exact hgrow
    · intro g' o e
      injection e with e
      injection e with e1 e2
      subst e1 e2
      rcases hat with k | k
      · left
        cases s with
        | none => cases k
        | some a =>
          obtain ⟨g3, hv, _⟩ : ∃ g3, a = ⟨g3, 0, none⟩ ∧ True := by
            rcases h.2 with ⟨h1, _⟩ | ⟨g3, c, cur, hv, _⟩
            · injection h1 with a b c; cases a
            · injection hv with a b c
              injection a with a
              exact ⟨g3, a, trivial⟩
          subst hv
          have : g3 = g := by simpa [Value.ownBlock] using k
          rw [this]
      · right; omega
theorem wp_append_ev {o : Oper} {a : Act} {w : World} {K : Act → World → Prop} {Q : Exit → Act → World → Prop} (x y : Operand) (ho : o.op = .call { callee := .builtin .append, args := #[x, y], argTypes := #[43, 43] })
    {B B2 : Nat} {s s2 : Option Addr} {n n2 cap cap2 : Nat} {l l2 : List Mm.Ev} (hx : a.eval x = .slice s n cap) (hy : a.eval y = .slice s2 n2 cap2) (hn : n = l.length) (hn2 : n2 = l2.length) (h : EvAt B w s cap l) (h2 : EvAt B2 w s2 cap2 l2) (hB : B ≤ w.heap.size) (hl : l.length + l2.length ≤ 1000)
    (hk : ∀ s' cap' w', EvAt B w' s' cap' (l ++ l2) → w.grownBy w' (s.map (·.block)) → (∀ g o, s' = some ⟨g, o, none⟩ → s = some ⟨g, o, none⟩ ∨ w.heap.size ≤ g) → K (a.put o.dst (.slice s' (n + n2) cap')) w') : o.wp Tryz.prog a w K Q := by
  subst hn hn2
  obtain ⟨s', c', w', hr, h4, h5, h6⟩ := run_append_ev o.type h h2 hB hl
  unfold Oper.wp execOp
  simp only [ho, resolve, invoke, builtin, Sem.run_bind, Sem.run_pure, Result.andThen_ok, List.map_toArray, List.map_cons, List.map_nil, hx, hy, hr]
  exact hk s' c' w' h4 h5 h6
theorem wpList_append_ev {ops : Array Oper} {rest : List Oper} {o : Oper} {a : Act} {w : World} {Q : Exit → Act → World → Prop} (hgd : o.guard = none) (x y : Operand) (ho : o.op = .call { callee := .builtin .append, args := #[x, y], argTypes := #[43, 43] })
    {B B2 : Nat} {s s2 : Option Addr} {n n2 cap cap2 : Nat} {l l2 : List Mm.Ev} (hx : a.eval x = .slice s n cap) (hy : a.eval y = .slice s2 n2 cap2) (hn : n = l.length) (hn2 : n2 = l2.length) (h : EvAt B w s cap l) (h2 : EvAt B2 w s2 cap2 l2) (hB : B ≤ w.heap.size) (hl : l.length + l2.length ≤ 1000)
    (hk : ∀ s' cap' w', EvAt B w' s' cap' (l ++ l2) → w.grownBy w' (s.map (·.block)) → (∀ g o, s' = some ⟨g, o, none⟩ → s = some ⟨g, o, none⟩ ∨ w.heap.size ≤ g) → wpList Tryz.prog ops Q rest (a.put o.dst (.slice s' (n + n2) cap')) w') : wpList Tryz.prog ops Q (o :: rest) a w :=
  wpList_plain hgd fun _ hK => wp_append_ev x y ho hx hy hn hn2 h h2 hB hl fun s' c' w' h4 h5 h6 => hK _ _ (hk s' c' w' h4 h5 h6)
theorem step_append_ev {ops : Array Oper} {o : Oper} {a : Act} {w : World} {K : Act → World → Prop} {Q : Exit → Act → World → Prop} {E : Prop} (hgd : o.guard = none) (x y : Operand) (ho : o.op = .call { callee := .builtin .append, args := #[x, y], argTypes := #[43, 43] })
    {B B2 : Nat} {s s2 : Option Addr} {n n2 cap cap2 : Nat} {l l2 : List Mm.Ev} (hx : a.eval x = .slice s n cap) (hy : a.eval y = .slice s2 n2 cap2) (hn : n = l.length) (hn2 : n2 = l2.length) (h : EvAt B w s cap l) (h2 : EvAt B2 w s2 cap2 l2) (hB : B ≤ w.heap.size) (hl : l.length + l2.length ≤ 1000)
    (hk : ∀ s' cap' w', EvAt B w' s' cap' (l ++ l2) → w.grownBy w' (s.map (·.block)) → (∀ g o, s' = some ⟨g, o, none⟩ → s = some ⟨g, o, none⟩ ∨ w.heap.size ≤ g) → K (a.put o.dst (.slice s' (n + n2) cap')) w') :
    if Region.wanted o (yielded ops a.tmps) = true then Oper.wp Tryz.prog o a w K Q else E := by
  have hw : Region.wanted o (yielded ops a.tmps) = true := by simp [Region.wanted, hgd]
  rw [if_pos hw]
  exact wp_append_ev x y ho hx hy hn hn2 h h2 hB hl hk
end Go.Proofs.YthkaekpoicodeaaGreatDoor
