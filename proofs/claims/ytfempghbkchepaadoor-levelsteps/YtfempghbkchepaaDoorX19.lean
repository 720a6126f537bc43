/- Package status, landed: All, Copy, Clear, Spread; all of it. -/
import Derived.Test.YtfempghbkchepaaDoorXf
import Derived.Laws.CopyOwn
import Derived.Laws.CopyRow
namespace Go.Proofs.YtfempghbkchepaaDoor
open Go.RowKit Go.WideShapes Go.ChangeShapes Go.ChangeAt
set_option linter.unusedVariables false
namespace Sg
/-- clear of a list that lies in a row of its own. -/
theorem run_clearRow {P : Program} {t e : TypeId} {z : Value} (ht : P.underlying t = some (.slice e)) (hv : ∀ w, (zeroValue e).run P w = .ok z w) (hz : z.cells = #[z]) (h1 : z.oneCell' = true) (ty : TypeId) {T : TypeId} {w : World} {g n c : Nat} {cs : Array Value} (h : RowT T w g cs) (hn : cs.size = n) :
    ∃ w', (Builtin.clear_ #[t] ty #[.slice (some ⟨g, 0, none⟩) n c]).run P w = .ok (.tuple #[]) w' ∧ RowT T w' g (List.replicate n z).toArray ∧ Kept (fun j => j = g) w w' := by
  by_cases h0 : n = 0
  · subst h0
    obtain rfl : cs = #[] := Array.size_eq_zero_iff.1 hn
    refine ⟨w, ?_, h, Kept.refl _ _⟩
    simp [Builtin.clear_, run_underlying ht]
  · obtain ⟨m, rfl⟩ : ∃ m, n = m + 1 := ⟨n - 1, by omega⟩
    have hzc : (Builtin.zeroCells z.cells (m + 1)).toList = List.replicate (m + 1) z := by
      rw [hz]
      simp [Builtin.zeroCells]
      apply List.ext_getElem
      · simp
      · intro i h1 h2
        simp [Nat.mod_one]
    have hst := run_storeCells_at P g 0 T (List.replicate (m + 1) z) 0 cs w h (by simp; omega) (by intro v hv'; rw [List.eq_of_mem_replicate hv']; exact h1)
    have e : (cs.toList.take (0 + 0) ++ List.replicate (m + 1) z ++ cs.toList.drop (0 + 0 + (List.replicate (m + 1) z).length)) = List.replicate (m + 1) z := by
      rw [List.drop_eq_nil_of_le (by simp; omega)]
      simp
    rw [e] at hst
    refine ⟨w.setRow g (List.replicate (m + 1) z).toArray, ?_, setRow_heap w g _ _ T _ h, ?_⟩
    · simp [Builtin.clear_, run_underlying ht, hv, hzc, hst]
    · exact ⟨rfl, rfl, rfl, by simp [World.setRow], fun k hk hne => setRow_other w g k _ hne⟩
theorem wpList_clearRow {P : Program} {t e : TypeId} {z : Value} (ht : P.underlying t = some (.slice e)) (hv : ∀ w, (zeroValue e).run P w = .ok z w) (hz : z.cells = #[z]) (h1 : z.oneCell' = true) {ops : Array Oper} {rest : List Oper} {o : Oper} {a : Act} {w : World} {Q : Exit → Act → World → Prop} (hgd : o.guard = none) (x : Operand) (ho : o.op = .call { callee := .builtin .clear, args := #[x], argTypes := #[t] })
    {T : TypeId} {g n c : Nat} {cs : Array Value} (hx : a.eval x = .slice (some ⟨g, 0, none⟩) n c) (h : RowT T w g cs) (hn : cs.size = n)
    (hk : ∀ w', RowT T w' g (List.replicate n z).toArray → Kept (fun j => j = g) w w' → wpList P ops Q rest (a.put o.dst (.tuple #[])) w') : wpList P ops Q (o :: rest) a w := by
  obtain ⟨w', hr, h4, h5⟩ := run_clearRow (c := c) ht hv hz h1 o.type h hn
  refine wpList_plain hgd fun K hK => ?_
  unfold Oper.wp execOp
  simp only [ho, resolve, invoke, builtin, Sem.run_bind, Sem.run_pure, Result.andThen_ok, List.map_toArray, List.map_cons, List.map_nil, hx, hr]
  exact hK _ _ (hk w' h4 h5)
end Sg
theorem zvInt (w : World) : (zeroValue 3).run Tryd.prog w = .ok (.int .i64 0) w := by kernel_rfl
theorem sA_zero (n : Nat) : (List.replicate n (Value.int .i64 0)).toArray = sA (List.replicate n 0) := by
  unfold sA sL
  rw [List.map_replicate]
  rfl
theorem sL_len (s : List Nat) : (sL s).length = s.length := by unfold sL; rw [List.length_map]
theorem sA_size (s : List Nat) : (sA s).size = s.length := by unfold sA; rw [List.size_toArray, sL_len]
theorem sL_one {s : List Nat} {v : Value} (h : v ∈ sL s) : v.oneCell' = true := by
  unfold sL at h
  obtain ⟨x, _, rfl⟩ := List.mem_map.1 h
  rfl
set_option maxRecDepth 100000 in
set_option maxHeartbeats 4000000 in
theorem st_list (w : World) (p : Nat) (F : Nat → Prop) (s : List Nat) (h : StatusAt w p F s) : Calls Tryd.prog 17 #[Ob.ptr p] w fun e w' => e = .returned (.slice (some ⟨w.heap.size, 0, none⟩) s.length s.length) ∧ RowT 3 w' w.heap.size (sA s) ∧ Below w.heap.size w w' := by
  obtain ⟨g, hF, h⟩ := h
  have r0 := h.row.c 0 _ rfl
  have HH : Hid (St w p s g) := h
  obtain ⟨n, hn⟩ : ∃ n, s.length = n := ⟨_, rfl⟩
  have HN : Hid (s.length = n) := hn
  have h12 : n ≤ 12 := by rw [← hn]; exact h.ok.len
  have hmk := fun W => make19 (n : Int) n rfl h12 W
  have r1 : (w.alloc (.cells (sL (List.replicate n 0)).toArray 3)).cell? ⟨p, 0, none⟩ = some (.slice (some ⟨g, 0, none⟩) n n) := by
    rw [← hn]
    exact (h.row.on ((Below.refl _ _).alloc (Nat.le_refl _) _)).c 0 _ rfl
  rw [hn] at r0 ⊢
  clear h hF hn
  go_enter Tryd.func17, Tryd.ntmps17
  go_wp2_with (refine wpList_copy_splice rfl (.tmp 10) (.tmp 14) 36 36 rfl 3 Tryd.underlying36 (by kernel_rfl) (some ⟨w.heap.size, 0, none⟩) (some ⟨g, 0, none⟩) n n n n rfl rfl w.heap.size 0 (sL (List.replicate n 0)) 3 (RowT.new _ _ _) (sL s) (by rw [sL_len, HN.out]; exact (Nat.min_self n).symm) (fun _ => ⟨rfl, _, rfl, fun j v hj => (Sg.add_at g 0 j ▸ (Nat.zero_add j).symm ▸ (HH.out.cs.on ((Below.refl _ _).alloc (Nat.le_refl _) _)).c j v (by unfold sA; rw [List.getElem?_toArray]; exact hj))⟩) (by rw [sL_len, sL_len, List.length_replicate, HN.out]; omega) (fun v hv => sL_one hv) w.heap.size w ((Below.refl _ _).alloc (Nat.le_refl _) _) (Nat.le_refl _) ?_; intro w2 HG2 hB2)
  go_ret
  refine ⟨rfl, ?_, hB2⟩
  have hG := HG2.out
  unfold splice at hG
  rw [List.take_zero, List.nil_append, List.drop_eq_nil_of_le (by rw [sL_len, sL_len, List.length_replicate, HN.out]; omega), List.append_nil] at hG
  exact hG
theorem st_all (w : World) (p : Nat) (F : Nat → Prop) (s : List Nat) (h : StatusAt w p F s) : Oq.Tells Tryd.prog 17 #[Ob.ptr p] w s.length (sL s) := by
  refine (st_list w p F s h).mono ?_
  rintro e w' ⟨rfl, hr, hb⟩
  obtain ⟨g, hF, h⟩ := h
  refine ⟨_, _, rfl, ⟨Nat.le_refl _, by have := h.ok.len; unfold maxLen; omega, Or.inr ⟨_, 0, rfl, hr.lt, fun k v hk => ?_⟩⟩, fun g' o _ e => ?_, hb⟩
  · rw [Nat.zero_add]
    exact hr.c k v (by unfold sA; rw [List.getElem?_toArray]; exact hk)
  · injection e with e
    injection e with e
    exact Nat.le_of_eq e
set_option maxRecDepth 100000 in
set_option maxHeartbeats 4000000 in
theorem st_max (w : World) (g x : Nat) (s : List Nat) (h : RowT 3 w g (sA s)) (hl : s.length ≤ 12) (hx : s[0]? = some x) : Calls Tryd.prog 23 #[.slice (some ⟨g, 0, none⟩) s.length s.length] w fun e w' => e = .returned (.int .i64 (Q19.hi s : Int)) ∧ w' = w := by
  have c0 : w.cell? ⟨g, 0, none⟩ = some (.int .i64 (x : Int)) := h.c 0 _ (sL_at hx)
  have HC : Hid (∀ k y : Nat, s[k]? = some y → w.cell? ⟨g, k, none⟩ = some (.int .i64 (y : Int))) := fun k y hk => h.c k _ (sL_at hk)
  have HX : Hid (s[0]? = some x) := hx
  have H1 : Hid (Q19.hiT s x 1 = x) := by
    have h1 := Q19.hiT_succ x hx
    rw [show Q19.hiT s x 0 = x from rfl] at h1
    exact h1.trans (by omega)
  have hlen0 := (List.getElem?_eq_some_iff.1 hx).1
  obtain ⟨n, hn⟩ : ∃ n, s.length = n := ⟨_, rfl⟩
  have HN : Hid (s.length = n) := hn
  obtain ⟨D, hD⟩ : ∃ D : Nat, Q19.hi s = D := ⟨_, rfl⟩
  have HD : Hid (Q19.hi s = D) := hD
  rw [hD]
  rw [hn] at hl hlen0 ⊢
  have n1 : ¬ ((n : Int) < 1) := by omega
  have n0 : (0 : Int) < (n : Int) := by omega
  have nB : (n : Int) ≤ 12 := by omega
  clear h hx hn hD
  go_enter Tryd.func23, Tryd.ntmps23
  go_wp2_with fail
  go_loopw [3, 4] (fun v3 v4 wr => ∃ i B : Nat, i ≤ n ∧ v3 = .int .i64 (B : Int) ∧ v4 = .int .i64 (i : Int) ∧ Hid (Q19.hiT s x i = B) ∧ wr = w) (fun _ v4 _ => n - (intOf v4).toNat)
  case atStart => exact ⟨1, x, hlen0, rfl, rfl, H1, rfl⟩
  case round =>
    clear H1
    obtain ⟨i, B, hi, rfl, rfl, HH, rfl⟩ := hrel
    by_cases hin : i < n
    · have ii : (i : Int) < (n : Int) := by omega
      obtain ⟨y, hy⟩ : ∃ y, s[i]? = some y := ⟨_, List.getElem?_eq_getElem (by rw [HN.out]; exact hin)⟩
      have c1 := HC.out i y hy
      have HH2 : Hid (Q19.hiT s x (i + 1) = max B y) := by have h1 := Q19.hiT_succ x hy; rw [HH.out] at h1; exact h1
      obtain ⟨B2, hB2⟩ : ∃ B2 : Nat, max B y = B2 := ⟨_, rfl⟩
      have mB : max (B : Int) (y : Int) = (B2 : Int) := by omega
      rw [hB2] at HH2
      clear hB2 hy HH c0
      go_wp2_with fail
      exact ⟨⟨i + 1, B2, by omega, rfl, rfl, HH2, trivial⟩, by simp only [intOf]; omega⟩
    · obtain rfl : i = n := by omega
      have eB : B = D := by rw [← HH.out, ← HD.out, ← HN.out]; exact Q19.hiT_all HX.out
      clear HH
      subst eB
      go_wp2
      go_ret
      exact ⟨rfl, rfl⟩
set_option maxRecDepth 100000 in
set_option maxHeartbeats 4000000 in
theorem st_min (w : World) (g x : Nat) (s : List Nat) (h : RowT 3 w g (sA s)) (hl : s.length ≤ 12) (hx : s[0]? = some x) : Calls Tryd.prog 24 #[.slice (some ⟨g, 0, none⟩) s.length s.length] w fun e w' => e = .returned (.int .i64 (Q19.lo s : Int)) ∧ w' = w := by
  have c0 : w.cell? ⟨g, 0, none⟩ = some (.int .i64 (x : Int)) := h.c 0 _ (sL_at hx)
  have HC : Hid (∀ k y : Nat, s[k]? = some y → w.cell? ⟨g, k, none⟩ = some (.int .i64 (y : Int))) := fun k y hk => h.c k _ (sL_at hk)
  have HX : Hid (s[0]? = some x) := hx
  have H1 : Hid (Q19.loT s x 1 = x) := by
    have h1 := Q19.loT_succ x hx
    rw [show Q19.loT s x 0 = x from rfl] at h1
    exact h1.trans (by omega)
  have hlen0 := (List.getElem?_eq_some_iff.1 hx).1
  obtain ⟨n, hn⟩ : ∃ n, s.length = n := ⟨_, rfl⟩
  have HN : Hid (s.length = n) := hn
  obtain ⟨D, hD⟩ : ∃ D : Nat, Q19.lo s = D := ⟨_, rfl⟩
  have HD : Hid (Q19.lo s = D) := hD
  rw [hD]
  rw [hn] at hl hlen0 ⊢
  have n1 : ¬ ((n : Int) < 1) := by omega
  have n0 : (0 : Int) < (n : Int) := by omega
  have nB : (n : Int) ≤ 12 := by omega
  clear h hx hn hD
  go_enter Tryd.func24, Tryd.ntmps24
  go_wp2_with fail
  go_loopw [3, 4] (fun v3 v4 wr => ∃ i B : Nat, i ≤ n ∧ v3 = .int .i64 (B : Int) ∧ v4 = .int .i64 (i : Int) ∧ Hid (Q19.loT s x i = B) ∧ wr = w) (fun _ v4 _ => n - (intOf v4).toNat)
  case atStart => exact ⟨1, x, hlen0, rfl, rfl, H1, rfl⟩
  case round =>
    clear H1
    obtain ⟨i, B, hi, rfl, rfl, HH, rfl⟩ := hrel
    by_cases hin : i < n
    · have ii : (i : Int) < (n : Int) := by omega
      obtain ⟨y, hy⟩ : ∃ y, s[i]? = some y := ⟨_, List.getElem?_eq_getElem (by rw [HN.out]; exact hin)⟩
      have c1 := HC.out i y hy
      have HH2 : Hid (Q19.loT s x (i + 1) = min B y) := by have h1 := Q19.loT_succ x hy; rw [HH.out] at h1; exact h1
      obtain ⟨B2, hB2⟩ : ∃ B2 : Nat, min B y = B2 := ⟨_, rfl⟩
      have mB : min (B : Int) (y : Int) = (B2 : Int) := by omega
      rw [hB2] at HH2
      clear hB2 hy HH c0
      go_wp2_with fail
      exact ⟨⟨i + 1, B2, by omega, rfl, rfl, HH2, trivial⟩, by simp only [intOf]; omega⟩
    · obtain rfl : i = n := by omega
      have eB : B = D := by rw [← HH.out, ← HD.out, ← HN.out]; exact Q19.loT_all HX.out
      clear HH
      subst eB
      go_wp2
      go_ret
      exact ⟨rfl, rfl⟩
set_option maxRecDepth 100000 in
set_option maxHeartbeats 4000000 in
theorem st_spread (w : World) (p : Nat) (F : Nat → Prop) (s : List Nat) (h : StatusAt w p F s) : Ob.Looks Tryd.prog 18 #[Ob.ptr p] w (.int .i64 (Q19.spread s : Int)) := by
  obtain ⟨g, hF, h⟩ := h
  have r0 := h.row.c 0 _ rfl
  unfold Ob.Looks
  by_cases hz : s.length = 0
  · obtain rfl := List.length_eq_zero_iff.1 hz
    clear hF h
    go_enter Tryd.func18, Tryd.ntmps18
    go_wp2
    go_ret
    exact ⟨rfl, Below.refl _ _⟩
  · obtain ⟨x, hx⟩ : ∃ x, s[0]? = some x := ⟨_, List.getElem?_eq_getElem (by omega)⟩
    have HM : Hid (∀ w', Below w.heap.size w w' → Calls Tryd.prog 23 #[.slice (some ⟨g, 0, none⟩) s.length s.length] w' fun e w'' => e = .returned (.int .i64 (Q19.hi s : Int)) ∧ w'' = w') := fun w' hb => st_max w' g x s (h.cs.on hb) h.ok.len hx
    have HL : Hid (∀ w', Below w.heap.size w w' → Calls Tryd.prog 24 #[.slice (some ⟨g, 0, none⟩) s.length s.length] w' fun e w'' => e = .returned (.int .i64 (Q19.lo s : Int)) ∧ w'' = w') := fun w' hb => st_min w' g x s (h.cs.on hb) h.ok.len hx
    have h7 : Q19.hi s ≤ 7 := Q19.hi_le h.ok.le
    have hlh : Q19.lo s ≤ Q19.hi s := Nat.le_trans (Q19.lo_mem (List.mem_of_getElem? hx)) (Q19.mem_hi (List.mem_of_getElem? hx))
    have hd : (Q19.hi s : Int) - (Q19.lo s : Int) = (Q19.spread s : Int) := by unfold Q19.spread; omega
    generalize Q19.hi s = A at *
    generalize Q19.lo s = B at *
    generalize Q19.spread s = D at *
    obtain ⟨n, hn⟩ : ∃ n, s.length = n := ⟨_, rfl⟩
    rw [hn] at r0 HM HL hz
    have hz2 : ((n : Int) == 0) = false := by simpa using hz
    have hz3 : ¬ ((n : Int) = 0) := by omega
    clear hF h hx hn hz
    go_enter Tryd.func18, Tryd.ntmps18
    go_wp2_with fail
    go_quiet (first | (go_at_call 23; exact Calls.quiet_of_same (HM.out _ (below_drewN (Below.refl _ _) _))) | (go_at_call 24; exact Calls.quiet_of_same (HL.out _ (below_drewN (Below.refl _ _) _))) | fail)
    go_wp2
    go_ret
    exact ⟨rfl, below_drewN (Below.refl _ _) _⟩
theorem statusSpec : StatusSpec StatusAt where
  is := status_is
  ok := fun ⟨g, _, h⟩ => h.ok
  new := st_new
  bad := st_bad
  all := st_all
  spread := st_spread
end Go.Proofs.YtfempghbkchepaaDoor
