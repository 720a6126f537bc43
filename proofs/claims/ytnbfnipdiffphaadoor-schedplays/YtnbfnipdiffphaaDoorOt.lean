/- One object, or two, a row of one's own beside them that is written, rows that stay. Nothing of the program is in it. -/
import Derived.Test.YtnbfnipdiffphaaDoorOs
namespace Go.Proofs.YtnbfnipdiffphaaDoor.Oq
open Go.RowKit Ob
set_option linter.unusedVariables false
section
variable {P : Program} {σ τ : Type} {At : A σ} {Bt : A τ} {W w w' : World} {p q g : Nat} {s s' : σ} {t t' : τ} {R0 R K : Rs} {T : TypeId} {cs cs' : Array Value} {f : FuncId} {args : Array Value} {v : Value} {n : Nat} {C : List Value}
/-- An object, the rows R0 that it depends on, a row at g that is one's own, rows K that stay. -/
def S1 (At : A σ) (R0 : Rs) (W w : World) (p : Nat) (s : σ) (g : Nat) (T : TypeId) (cs : Array Value) (K : Rs) : Prop :=
  O1 At W w p s ((g, .cells cs T) :: K) ∧ (∀ x ∈ K, x.1 ≠ g) ∧ (∀ x ∈ R0, x ∈ K) ∧ W.heap.size ≤ g
def S2 (At : A σ) (Bt : A τ) (R0 : Rs) (W w : World) (p : Nat) (s : σ) (q : Nat) (t : τ) (g : Nat) (T : TypeId) (cs : Array Value) (K : Rs) : Prop :=
  O2 At Bt W w p s q t ((g, .cells cs T) :: K) ∧ (∀ x ∈ K, x.1 ≠ g) ∧ (∀ x ∈ R0, x ∈ K) ∧ W.heap.size ≤ g
theorem S1.bel (h : S1 At R0 W w p s g T cs K) : Below W.heap.size W w := h.1.bel
theorem S2.bel (h : S2 At Bt R0 W w p s q t g T cs K) : Below W.heap.size W w := h.1.bel
theorem S1.r0 (h : S1 At R0 W w p s g T cs K) : Rows R0 w := fun x hx => h.1.rows x (List.mem_cons_of_mem _ (h.2.2.1 x hx))
theorem S2.r0 (h : S2 At Bt R0 W w p s q t g T cs K) : Rows R0 w := fun x hx => h.1.rows x (List.mem_cons_of_mem _ (h.2.2.1 x hx))
theorem S1.rk (h : S1 At R0 W w p s g T cs K) : Rows K w := fun x hx => h.1.rows x (List.mem_cons_of_mem _ hx)
theorem S2.rk (h : S2 At Bt R0 W w p s q t g T cs K) : Rows K w := fun x hx => h.1.rows x (List.mem_cons_of_mem _ hx)
theorem S1.row (h : S1 At R0 W w p s g T cs K) : RowT T w g cs := h.1.rows (g, .cells cs T) (List.mem_cons_self ..)
theorem S2.row (h : S2 At Bt R0 W w p s q t g T cs K) : RowT T w g cs := h.1.rows (g, .cells cs T) (List.mem_cons_self ..)
theorem S1.on (O : Is At) (h : S1 At R0 W w p s g T cs K) (hb : Below w.heap.size w w') : S1 At R0 W w' p s g T cs K := ⟨h.1.on O hb, h.2⟩
theorem S2.on (O : Is At) (O' : Is Bt) (h : S2 At Bt R0 W w p s q t g T cs K) (hb : Below w.heap.size w w') : S2 At Bt R0 W w' p s q t g T cs K := ⟨h.1.on O O' hb, h.2⟩
theorem S1.less (h : S1 At R0 W w p s g T cs (R ++ K)) (h0 : ∀ x ∈ R0, x ∈ K) : S1 At R0 W w p s g T cs K :=
  ⟨h.1.less (fun x hx => (List.mem_cons.1 hx).elim (fun e => e ▸ List.mem_cons_self ..) (fun hx => List.mem_cons_of_mem _ (List.mem_append_right _ hx))), fun x hx => h.2.1 x (List.mem_append_right _ hx), h0, h.2.2.2⟩
/-- The row is laid. -/
theorem S1.make (O : Is At) (h : O1 At W w p s R) (h0 : ∀ x ∈ R0, x ∈ R) (T : TypeId) (cs : Array Value) : S1 At R0 W (w.alloc (.cells cs T)) p s w.heap.size T cs R :=
  ⟨h.al O _, fun x hx e => by have := (Array.getElem?_eq_some_iff.1 (h.rows x hx)).1; omega, h0, h.bel.size⟩
theorem S1.turn (c : ∀ F, At w p F s → Turns P At f args w p F s' v) (h : S1 At R0 W w p s g T cs K) : Calls P f args w fun e w' => e = .returned v ∧ S1 At R0 W w' p s' g T cs K :=
  (h.1.turn c).mono fun e w' ⟨he, h1⟩ => ⟨he, h1, h.2⟩
theorem S2.turn (O' : Is Bt) (c : ∀ F, At w p F s → Turns P At f args w p F s' v) (h : S2 At Bt R0 W w p s q t g T cs K) : Calls P f args w fun e w' => e = .returned v ∧ S2 At Bt R0 W w' p s' q t g T cs K :=
  (h.1.turn O' c).mono fun e w' ⟨he, h1⟩ => ⟨he, h1, h.2⟩
theorem mem_mid {x y : Nat × Obj} {A B : Rs} : x ∈ y :: (A ++ B) ↔ x ∈ A ++ (y :: B) := by simp [or_left_comm]
theorem S1.turnL (c : ∀ F, At w p F s → TurnsL P At f args w p F s' n C) (h : S1 At R0 W w p s g T cs K) : Calls P f args w fun e w' => ∃ a c K', e = .returned (.slice a n c) ∧ Lst (K' ++ K) a c n C ∧ S1 At R0 W w' p s' g T cs (K' ++ K) := by
  have hl := (Array.getElem?_eq_some_iff.1 (h.1.rows _ (List.mem_cons_self ..))).1
  refine (h.1.turnL c).mono ?_
  rintro e w' ⟨a, cp, R', rfl, hL, hn, h1⟩
  refine ⟨a, cp, R', rfl, hL.more (fun x hx => List.mem_append_left _ hx), h1.less (fun x hx => mem_mid.1 hx), fun x hx e => ?_, fun x hx => List.mem_append_right _ (h.2.2.1 x hx), h.2.2.2⟩
  rcases List.mem_append.1 hx with hx | hx
  · have := hn x hx; dsimp only at hl; omega
  · exact h.2.1 x hx e
theorem S2.turnL (O' : Is Bt) (c : ∀ F, At w p F s → TurnsL P At f args w p F s' n C) (h : S2 At Bt R0 W w p s q t g T cs K) : Calls P f args w fun e w' => ∃ a c K', e = .returned (.slice a n c) ∧ Lst (K' ++ K) a c n C ∧ S2 At Bt R0 W w' p s' q t g T cs (K' ++ K) := by
  have hl := (Array.getElem?_eq_some_iff.1 (h.1.rows _ (List.mem_cons_self ..))).1
  refine (h.1.turnL O' c).mono ?_
  rintro e w' ⟨a, cp, R', rfl, hL, hn, h1⟩
  refine ⟨a, cp, R', rfl, hL.more (fun x hx => List.mem_append_left _ hx), h1.less (fun x hx => mem_mid.1 hx), fun x hx e => ?_, fun x hx => List.mem_append_right _ (h.2.2.1 x hx), h.2.2.2⟩
  rcases List.mem_append.1 hx with hx | hx
  · have := hn x hx; dsimp only at hl; omega
  · exact h.2.1 x hx e
theorem S2.swap (h : S2 At Bt R0 W w p s q t g T cs K) : S2 Bt At R0 W w q t p s g T cs K := ⟨h.1.swap, h.2⟩
theorem S2.turnL2 (O : Is At) (c : ∀ F, Bt w q F t → TurnsL P Bt f args w q F t' n C) (h : S2 At Bt R0 W w p s q t g T cs K) : Calls P f args w fun e w' => ∃ a c K', e = .returned (.slice a n c) ∧ Lst (K' ++ K) a c n C ∧ S2 At Bt R0 W w' p s q t' g T cs (K' ++ K) :=
  (h.swap.turnL O c).mono fun e w' ⟨a, cp, K', he, hL, h⟩ => ⟨a, cp, K', he, hL, h.swap⟩
theorem S2.turn2 (O : Is At) (c : ∀ F, Bt w q F t → Turns P Bt f args w q F t' v) (h : S2 At Bt R0 W w p s q t g T cs K) : Calls P f args w fun e w' => e = .returned v ∧ S2 At Bt R0 W w' p s q t' g T cs K :=
  (h.swap.turn O c).mono fun e w' ⟨he, h⟩ => ⟨he, h.swap⟩
theorem S1.tell (O : Is At) (c : Tells P f args w n C) (h : S1 At R0 W w p s g T cs K) : Calls P f args w fun e w' => ∃ a c K', e = .returned (.slice a n c) ∧ Lst (K' ++ K) a c n C ∧ S1 At R0 W w' p s g T cs (K' ++ K) := by
  have hl := (Array.getElem?_eq_some_iff.1 (h.1.rows _ (List.mem_cons_self ..))).1
  refine (h.1.tell O c).mono ?_
  rintro e w' ⟨a, cp, R', rfl, hL, hn, h1⟩
  refine ⟨a, cp, R', rfl, hL.more (fun x hx => List.mem_append_left _ hx), h1.less (fun x hx => mem_mid.1 hx), fun x hx e => ?_, fun x hx => List.mem_append_right _ (h.2.2.1 x hx), h.2.2.2⟩
  rcases List.mem_append.1 hx with hx | hx
  · have := hn x hx; dsimp only at hl; omega
  · exact h.2.1 x hx e
theorem S2.tell (O : Is At) (O' : Is Bt) (c : Tells P f args w n C) (h : S2 At Bt R0 W w p s q t g T cs K) : Calls P f args w fun e w' => ∃ a c K', e = .returned (.slice a n c) ∧ Lst (K' ++ K) a c n C ∧ S2 At Bt R0 W w' p s q t g T cs (K' ++ K) := by
  have hl := (Array.getElem?_eq_some_iff.1 (h.1.rows _ (List.mem_cons_self ..))).1
  refine (h.1.tell O O' c).mono ?_
  rintro e w' ⟨a, cp, R', rfl, hL, hn, h1⟩
  refine ⟨a, cp, R', rfl, hL.more (fun x hx => List.mem_append_left _ hx), h1.less (fun x hx => mem_mid.1 hx), fun x hx e => ?_, fun x hx => List.mem_append_right _ (h.2.2.1 x hx), h.2.2.2⟩
  rcases List.mem_append.1 hx with hx | hx
  · have := hn x hx; dsimp only at hl; omega
  · exact h.2.1 x hx e
theorem S1.look (O : Is At) (c : ∀ F, At w p F s → Looks P f args w v) (h : S1 At R0 W w p s g T cs K) : Calls P f args w fun e w' => e = .returned v ∧ S1 At R0 W w' p s g T cs K :=
  (h.1.look O c).mono fun e w' ⟨he, h1⟩ => ⟨he, h1, h.2⟩
theorem S2.look (O : Is At) (O' : Is Bt) (c : ∀ F, At w p F s → Looks P f args w v) (h : S2 At Bt R0 W w p s q t g T cs K) : Calls P f args w fun e w' => e = .returned v ∧ S2 At Bt R0 W w' p s q t g T cs K :=
  (h.1.look O O' c).mono fun e w' ⟨he, h1⟩ => ⟨he, h1, h.2⟩
theorem S1.make2 (O : Is At) (c : ∀ F, At w p F s → Makes P Bt f args w t) (h : S1 At R0 W w p s g T cs K) : Calls P f args w fun e w' => ∃ q, e = .returned (ptr q) ∧ S2 At Bt R0 W w' p s q t g T cs K :=
  (h.1.make2 O c).mono fun e w' ⟨q, he, h1⟩ => ⟨q, he, h1, h.2⟩
theorem S2.fst (h : S2 At Bt R0 W w p s q t g T cs K) : S1 At R0 W w p s g T cs K := ⟨h.1.fst, h.2⟩
/-- The row is written whole. -/
theorem S1.put (O : Is At) (h : S1 At R0 W w p s g T cs K) (cs' : Array Value) : S1 At R0 W (w.setRow g cs') p s g T cs' K := by
  obtain ⟨⟨F, h1, b1, hw, hr⟩, hK, h0, hg⟩ := h
  obtain ⟨r1, r2⟩ := hr _ (List.mem_cons_self ..)
  dsimp only at r1 r2
  have hk : Kept (fun j => j = g) w (w.setRow g cs') := ⟨rfl, rfl, rfl, by simp [World.setRow], fun k _ hk => setRow_other w g k _ hk⟩
  refine ⟨⟨F, O.on h1 (fun j hj => hk.block j (O.lt h1 j hj) (fun e => r2 (e ▸ hj))), b1, hw.trans (hk.below (fun j e => e ▸ hg) hw.size), fun x hx => ?_⟩, hK, h0, hg⟩
  rcases List.mem_cons.1 hx with rfl | hx
  · exact ⟨setRow_heap w g _ _ _ _ r1, r2⟩
  · obtain ⟨q1, q2⟩ := hr x (List.mem_cons_of_mem _ hx)
    exact ⟨(hk.block x.1 (Array.getElem?_eq_some_iff.1 q1).1 (hK x hx)).trans q1, q2⟩
theorem S2.put (O : Is At) (O' : Is Bt) (h : S2 At Bt R0 W w p s q t g T cs K) (cs' : Array Value) : S2 At Bt R0 W (w.setRow g cs') p s q t g T cs' K := by
  obtain ⟨⟨F, G, h1, h2, b1, b2, d, hw, hr⟩, hK, h0, hg⟩ := h
  obtain ⟨r1, r2, r3⟩ := hr _ (List.mem_cons_self ..)
  dsimp only at r1 r2 r3
  have hk : Kept (fun j => j = g) w (w.setRow g cs') := ⟨rfl, rfl, rfl, by simp [World.setRow], fun k _ hk => setRow_other w g k _ hk⟩
  refine ⟨⟨F, G, O.on h1 (fun j hj => hk.block j (O.lt h1 j hj) (fun e => r2 (e ▸ hj))), O'.on h2 (fun j hj => hk.block j (O'.lt h2 j hj) (fun e => r3 (e ▸ hj))), b1, b2, d, hw.trans (hk.below (fun j e => e ▸ hg) hw.size), fun x hx => ?_⟩, hK, h0, hg⟩
  rcases List.mem_cons.1 hx with rfl | hx
  · exact ⟨setRow_heap w g _ _ _ _ r1, r2, r3⟩
  · obtain ⟨q1, q2, q3⟩ := hr x (List.mem_cons_of_mem _ hx)
    exact ⟨(hk.block x.1 (Array.getElem?_eq_some_iff.1 q1).1 (hK x hx)).trans q1, q2, q3⟩
end
end Go.Proofs.YtnbfnipdiffphaaDoor.Oq
