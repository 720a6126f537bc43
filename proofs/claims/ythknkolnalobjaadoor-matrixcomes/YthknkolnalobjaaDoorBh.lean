/- Package matrix, over the landed code: Comes, Rank, Frame, Find, Is, Same. -/
import Derived.Test.YthknkolnalobjaaDoorBg
import Derived.Test.YthknkolnalobjaaDoorB1
import Derived.Deep.CutBlock
namespace Go.Proofs.YthknkolnalobjaaDoor
open Go.RowKit Go.WideShapes
set_option linter.unusedVariables false
set_option maxRecDepth 100000 in
set_option maxHeartbeats 4000000 in
theorem mk_comes (w : World) (cy rp now : Int) (h1 : (Lit.int .i64 cy).wf = true) (h2 : (Lit.int .i64 now).wf = true) : Calls Tryd.prog 21 #[.int .i64 cy, .int .i64 rp, .int .i64 now] w fun e w' => e = .returned (.bool (Mx.comes cy rp now)) ∧ w' = w := by
  obtain ⟨b1, b2⟩ := bounds_i64 h1
  obtain ⟨b3, b4⟩ := bounds_i64 h2
  clear h1 h2
  unfold Mx.comes
  by_cases c1 : 0 < rp
  · rw [decide_eq_true c1, Bool.true_and]
    by_cases c2 : 0 ≤ cy
    · rw [decide_eq_true c2, Bool.true_and]
      by_cases c3 : cy ≤ now
      · rw [decide_eq_true c3, Bool.true_and]
        have n0 : rp ≠ 0 := by omega
        go_enter Tryd.func21, Tryd.ntmps21
        go_wp2
        go_ret
        exact ⟨by simp, rfl⟩
      · rw [decide_eq_false c3, Bool.false_and]
        go_enter Tryd.func21, Tryd.ntmps21
        go_wp2
        go_ret
        exact ⟨rfl, rfl⟩
    · rw [decide_eq_false c2, Bool.false_and, Bool.false_and]
      go_enter Tryd.func21, Tryd.ntmps21
      go_wp2
      go_ret
      exact ⟨rfl, rfl⟩
  · rw [decide_eq_false c1, Bool.false_and, Bool.false_and, Bool.false_and]
    go_enter Tryd.func21, Tryd.ntmps21
    go_wp2
    go_ret
    exact ⟨rfl, rfl⟩
set_option maxRecDepth 100000 in
set_option maxHeartbeats 4000000 in
theorem mk_index (w : World) (l : List Int) (s : Option Addr) (c : Nat) (who : Int) (h : LI w s c l.length (l.flatMap mC1)) (hl : l.length ≤ 1000) : Calls Tryd.prog 41 #[.slice s l.length c, .int .i64 who] w fun e w' => e = .returned (.int .i64 (Mx.firstAt (fun x => x == who) l)) ∧ w' = w := by
  have HE1 : Hid (∀ (k : Nat) x, l[k]? = some x → (∀ (j : Nat) y, j < k → l[j]? = some y → (y == who) = false) → (x == who) = true → Mx.firstAt (fun x => x == who) l = (k : Int)) := fun k x hx hb hw => Mx.firstAt_some hx hb hw
  have HE2 : Hid ((∀ (j : Nat) y, l[j]? = some y → (y == who) = false) → Mx.firstAt (fun x => x == who) l = -1) := fun hb => Mx.firstAt_none hb
  have HG : Hid (∀ i, i < l.length → ∃ x, l[i]? = some x) := fun i hi => ⟨_, List.getElem?_eq_getElem hi⟩
  have HG2 : Hid (∀ (i : Nat) x, l[i]? = some x → i < l.length) := fun i x hi => (List.getElem?_eq_some_iff.1 hi).1
  have HS : Hid (∀ i x, l[i]? = some x → ∃ g o, s = some ⟨g, o, none⟩ ∧ w.cell? ⟨g, o + i, none⟩ = some (.int .i64 x)) := fun i x hx => by
    obtain ⟨g, o, hs, _⟩ := h.at (sz := 1) (fun _ => rfl) i x hx
    subst hs
    exact ⟨g, o, rfl, Bk.e1 h hx⟩
  clear h
  generalize Mx.firstAt (fun x => x == who) l = R at HE1 HE2 ⊢
  generalize l.length = n at HG HG2 hl ⊢
  go_enter Tryd.func41, Tryd.ntmps41
  go_wp2_with fail
  go_loopw [8] (fun i wr => ∃ k : Nat, k ≤ n ∧ i = .int .i64 k ∧ wr = w ∧ Hid (∀ (j : Nat) y, j < k → l[j]? = some y → (y == who) = false)) (fun i _ => n - (intOf i).toNat)
  case atStart => exact ⟨0, Nat.zero_le _, rfl, rfl, fun j y h => absurd h (Nat.not_lt_zero _)⟩
  case round =>
    obtain ⟨k, hk, rfl, rfl, HF⟩ := hrel
    by_cases hlt : k < n
    · obtain ⟨x, hx⟩ := HG.out k hlt
      obtain ⟨g, o, rfl, hc⟩ := HS.out k x hx
      clear HS HG HG2
      cases hw : (x == who)
      · have HF2 : Hid (∀ (j : Nat) y, j < k + 1 → l[j]? = some y → (y == who) = false) := Mx.upto_succ (p := fun y => y == who) hx HF.out hw
        have hw2 : (who == x) = false := beq_eq_false_iff_ne.2 (fun e => by rw [e] at hw; simp at hw)
        clear hx HE1 HE2 HF
        go_wp2
        first
          | exact ⟨⟨k + 1, by omega, by simp, (by first | rfl | trivial), HF2⟩, by simp [intOf]; omega⟩
          | (go_roundw; (case rel => exact ⟨k + 1, by omega, rfl, rfl, HF2⟩); (case measure => simp only [intOf]; omega))
      · have hR := HE1.out k x hx HF.out hw
        obtain rfl : x = who := beq_iff_eq.1 hw
        clear hx HE1 HE2 HF hw
        go_wp2
        go_ret
        exact ⟨by rw [hR]; rfl, rfl⟩
    · have hR := HE2.out (fun j y hy => HF.out j y (by have := HG2.out j y hy; omega) hy)
      clear HE1 HE2 HG HG2 HS HF
      go_wp2
      go_ret
      exact ⟨by rw [hR]; rfl, rfl⟩
set_option maxRecDepth 100000 in
set_option maxHeartbeats 4000000 in
theorem mk_rank (w : World) (m : Mx.M) (a : Ma) (who : Int) (hm : MIn w m a) (hS : Mx.Small m) : Calls Tryd.prog 19 #[mV m a, .int .i64 who] w fun e w' => e = .returned (.int .i64 (Mx.rank m who)) ∧ Below w.heap.size w w' := by
  have HX : Hid (Bx w (w.alloc (.cells (mCs m a) 27)) w.heap.size m a) := Bx.mk' hm
  have HI : Hid (∀ w', LI w' a.s1 a.c1 m.masters.length (m.masters.flatMap mC1) → Calls Tryd.prog 41 #[.slice a.s1 m.masters.length a.c1, .int .i64 who] w' fun e w'' => e = .returned (.int .i64 (Mx.rank m who)) ∧ w'' = w') := fun w' h => mk_index w' m.masters a.s1 a.c1 who h hS.a
  obtain ⟨_, _, _, _, _, _, _, _, x8, _, _⟩ := HX.out.row.mat
  show Calls _ _ #[.agg (mCs m a), _] _ _
  generalize mCs m a = cs at HX x8 ⊢
  clear hm hS
  go_enter Tryd.func19, Tryd.ntmps19
  go_wp2_with fail
  refine (HI.out _ HX.out.mem.l1).mono ?_
  rintro e w1 ⟨rfl, rfl⟩
  go_wp2
  go_ret
  exact ⟨rfl, HX.out.below⟩
set_option maxRecDepth 100000 in
set_option maxHeartbeats 4000000 in
theorem mk_frame (w : World) (m : Mx.M) (a : Ma) (msg : Int) (d : ByteArray) (hm : MIn w m a) (hS : Mx.Small m) : Calls Tryd.prog 10 #[mV m a, .int .i64 msg, .string d] w fun e w' => e = .returned (fVal (Mx.fid m msg d.size) d) ∧ Below w.heap.size w w' := by
  have HX0 : Hid (Bx w (w.alloc (.cells (mCs m a) 27)) w.heap.size m a) := Bx.mk' hm
  have HX1 : Hid (∀ o, Bx w ((w.alloc (.cells (mCs m a) 27)).alloc o) w.heap.size m a) := fun o => HX0.out.on ((Below.refl _ _).alloc (Nat.le_refl _) _)
  have hl := hS.b
  have x9 : ∀ o, ((w.alloc (.cells (mCs m a) 27)).alloc o).cell? ⟨w.heap.size, 9, none⟩ = some (.slice a.s2 m.messages.length a.c2) := fun o => (HX1.out o).row.mat.2.2.2.2.2.2.2.2.2.1
  have HW : Hid (∀ (w : World) (n lo hi : Int) (b : Bool), Mx.within n lo hi = b → Calls Tryd.prog 24 #[.int .i64 n, .int .i64 lo, .int .i64 hi] w fun e w' => e = .returned (.bool b) ∧ w' = w) := fun w n lo hi b h => by subst h; exact mk_within w n lo hi
  show Calls _ _ #[.agg (mCs m a), _, _] _ _
  cases hw : Mx.within msg 0 ((m.messages.length : Int) - 1)
  · have hf : Mx.fid m msg d.size = none := by
      unfold Mx.fid
      split
      · rename_i h
        have : m.messages.length ≤ msg.toNat := by
          unfold Mx.within at hw
          simp only [Bool.and_eq_false_iff, decide_eq_false_iff_not] at hw
          omega
        rw [List.getElem?_eq_none this]; rfl
      · rfl
    rw [hf]
    generalize mCs m a = cs at HX1 x9 ⊢
    clear hm hS HX0
    generalize m.messages.length = n at hl x9 hw
    go_enter Tryd.func10, Tryd.ntmps10
    go_wp2_with fail
    refine (HW.out _ _ _ _ _ hw).mono ?_
    rintro e w1 ⟨rfl, rfl⟩
    go_wp2
    exact bodyPost_ret (v := fVal none d) (by simp [results, Tryd.results10, go_sem, fVal]; rfl) rfl ⟨rfl, ((Below.refl _ _).alloc (Nat.le_refl _) _).alloc (by simp) _⟩
  · have hb : 0 ≤ msg ∧ msg < (m.messages.length : Int) := by
      unfold Mx.within at hw
      simp only [Bool.and_eq_true, decide_eq_true_eq] at hw
      omega
    obtain ⟨k, rfl⟩ := Int.eq_ofNat_of_zero_le hb.1
    have h1 : k < m.messages.length := by omega
    clear hb
    obtain ⟨x, hx⟩ : ∃ x, m.messages[k]? = some x := ⟨_, List.getElem?_eq_getElem h1⟩
    have HC : Hid (∀ o, ∃ g o', a.s2 = some ⟨g, o', none⟩ ∧ ((w.alloc (.cells (mCs m a) 27)).alloc o).cell? ⟨g, o' + k * 3, none⟩ = some (.int .u32 (x.id : Int))) := fun o => by
      obtain ⟨g, o', hs, _, hc, _⟩ := (HX1.out o).mem.message hx
      exact ⟨g, o', hs, hc⟩
    by_cases h2 : 8 < d.size
    · have hf : Mx.fid m (k : Int) d.size = none := if_neg (fun h => by omega)
      rw [hf]
      generalize mCs m a = cs at HX1 x9 ⊢
      clear hm hS HX0 HC hx
      generalize m.messages.length = n at hl x9 h1 hw
      go_enter Tryd.func10, Tryd.ntmps10
      go_wp2_with fail
      refine (HW.out _ _ _ _ _ hw).mono ?_
      rintro e w1 ⟨rfl, rfl⟩
      go_wp2
      exact bodyPost_ret (v := fVal none d) (by simp [results, Tryd.results10, go_sem, fVal]; rfl) rfl ⟨rfl, ((Below.refl _ _).alloc (Nat.le_refl _) _).alloc (by simp) _⟩
    · have hf : Mx.fid m (k : Int) d.size = some x.id := by unfold Mx.fid; rw [if_pos ⟨by omega, by omega⟩, Int.toNat_natCast, hx]; rfl
      rw [hf]
      obtain ⟨g, o', hs, _⟩ := HC.out (.cells #[] 0)
      have c0 : ∀ o, ((w.alloc (.cells (mCs m a) 27)).alloc o).cell? ⟨g, o' + k * 3, none⟩ = some (.int .u32 (x.id : Int)) := fun o => by
        obtain ⟨g', o'', hs', hc⟩ := HC.out o
        rw [hs] at hs'
        injection hs' with hs'
        injection hs' with e1 e2
        subst e1 e2
        exact hc
      rw [hs] at x9
      generalize mCs m a = cs at HX1 x9 c0 ⊢
      clear hm hS HX0 HC hx
      generalize m.messages.length = n at hl x9 h1 hw
      go_enter Tryd.func10, Tryd.ntmps10
      go_wp2_with fail
      refine (HW.out _ _ _ _ _ hw).mono ?_
      rintro e w1 ⟨rfl, rfl⟩
      go_wp2
      exact bodyPost_ret (v := fVal (some x.id) d) (by simp [results, Tryd.results10, go_sem, fVal]) rfl ⟨rfl, ((Below.refl _ _).alloc (Nat.le_refl _) _).alloc (by simp) _⟩
set_option maxRecDepth 100000 in
set_option maxHeartbeats 4000000 in
theorem mk_find (w : World) (m : Mx.M) (a : Ma) (ext rtr : Bool) (id : Nat) (d : ByteArray) (hm : MIn w m a) (hS : Mx.Small m) : Calls Tryd.prog 17 #[mV m a, .agg #[.bool ext, .int .u32 (id : Int), .bool rtr, .string d]] w fun e w' => e = .returned (.int .i64 (Mx.find m ext rtr id)) ∧ Below w.heap.size w w' := by
  have HX0 : Hid (Bx w (w.alloc (.cells (mCs m a) 27)) w.heap.size m a) := Bx.mk' hm
  have HF0 : Hid (RowT 29 ((w.alloc (.cells (mCs m a) 27)).alloc (.cells #[.bool ext, .int .u32 (id : Int), .bool rtr, .string d] 29)) (w.alloc (.cells (mCs m a) 27)).heap.size #[.bool ext, .int .u32 (id : Int), .bool rtr, .string d]) := RowT.new _ _ _
  have HX : Hid (Bx w ((w.alloc (.cells (mCs m a) 27)).alloc (.cells #[.bool ext, .int .u32 (id : Int), .bool rtr, .string d] 29)) w.heap.size m a) := HX0.out.on ((Below.refl _ _).alloc (Nat.le_refl _) _)
  have hl := hS.b
  have hsz : (w.alloc (.cells (mCs m a) 27)).heap.size = w.heap.size + 1 := by simp
  rw [hsz] at HF0
  show Calls _ _ #[.agg (mCs m a), _] _ _
  generalize mCs m a = cs at HX HF0 ⊢
  clear hm hS HX0 hsz
  by_cases hways : ext = true ∨ rtr = true
  · have hR : Mx.find m ext rtr id = -1 := Mx.firstAt_none (fun j y _ => by rcases hways with h | h <;> simp [h])
    rw [hR]
    have f0 := HF0.out.c 0 _ rfl
    have f2 := HF0.out.c 2 _ rfl
    have hw2 : ext = true ∨ (ext = false ∧ rtr = true) := by cases ext <;> simp_all
    rcases hw2 with rfl | ⟨rfl, rfl⟩
    all_goals
      go_enter Tryd.func17, Tryd.ntmps17
      go_wp2
      go_ret
      exact ⟨rfl, HX.out.below⟩
  · obtain ⟨rfl, rfl⟩ : ext = false ∧ rtr = false := by cases ext <;> cases rtr <;> simp_all
    clear hways
    have HE1 : Hid (∀ (k : Nat) x, m.messages[k]? = some x → (∀ (j : Nat) y, j < k → m.messages[j]? = some y → (y.id == id) = false) → (x.id == id) = true → Mx.find m false false id = (k : Int)) := fun k x hx hb hw => Mx.firstAt_some (p := fun x : Mx.Msg => !false && !false && x.id == id) hx (fun j y hj hy => by simpa using hb j y hj hy) (by simpa using hw)
    have HE2 : Hid ((∀ (j : Nat) y, m.messages[j]? = some y → (y.id == id) = false) → Mx.find m false false id = -1) := fun hb => Mx.firstAt_none (fun j y hy => by simpa using hb j y hy)
    generalize Mx.find m false false id = R at HE1 HE2 ⊢
    have HL : Hid (∀ k, k < m.messages.length → ∃ x, m.messages[k]? = some x) := fun k hk => ⟨_, List.getElem?_eq_getElem hk⟩
    have HL2 : Hid (∀ (j : Nat) y, m.messages[j]? = some y → j < m.messages.length) := fun j y h => (List.getElem?_eq_some_iff.1 h).1
    obtain ⟨n, hn⟩ : ∃ n, m.messages.length = n := ⟨_, rfl⟩
    have HN : Hid (m.messages.length = n) := hn
    have x9 := HX.out.row.mat.2.2.2.2.2.2.2.2.2.1
    rw [hn] at hl HL HL2 x9
    have f0 := HF0.out.c 0 _ rfl
    have f2 := HF0.out.c 2 _ rfl
    clear hn
    go_enter Tryd.func17, Tryd.ntmps17
    go_wp2_with fail
    clear f0 f2 x9
    generalize (w.alloc (.cells cs 27)).alloc (.cells #[.bool false, .int .u32 (id : Int), .bool false, .string d] 29) = wB at HX HF0 ⊢
    go_loopw [16] (fun i wr => ∃ k : Nat, k ≤ n ∧ i = .int .i64 k ∧ Hid (Bx w wr w.heap.size m a) ∧ Hid (RowT 29 wr (w.heap.size + 1) #[.bool false, .int .u32 (id : Int), .bool false, .string d]) ∧ Hid (∀ (j : Nat) y, j < k → m.messages[j]? = some y → (y.id == id) = false)) (fun i _ => n - (intOf i).toNat)
    case atStart => exact ⟨0, Nat.zero_le _, rfl, HX, HF0, fun j y h => absurd h (Nat.not_lt_zero _)⟩
    case round =>
      clear HX HF0
      obtain ⟨k, hk, rfl, HX, HR, HF⟩ := hrel
      by_cases hlt : k < n
      · obtain ⟨x, hx⟩ := HL.out k hlt
        obtain ⟨g, o, hs, _, q0, q1, q2⟩ := HX.out.mem.message hx
        have HX1 : Hid (m.messages[k]? = some x) := hx
        have al : ∀ ob : Obj, Below wr.heap.size wr (wr.alloc ob) := fun ob => (Below.refl _ _).alloc (Nat.le_refl _) _
        have f1 : ∀ ob : Obj, (wr.alloc ob).cell? ⟨w.heap.size + 1, 1, none⟩ = some (.int .u32 (id : Int)) := fun ob => (HR.out.on (al ob)).c 1 _ rfl
        have HX5 : Hid (∀ ob : Obj, Bx w (wr.alloc ob) w.heap.size m a) := fun ob => HX.out.on (al ob)
        have HR5 : Hid (∀ ob : Obj, RowT 29 (wr.alloc ob) (w.heap.size + 1) #[.bool false, .int .u32 (id : Int), .bool false, .string d]) := fun ob => HR.out.on (al ob)
        rw [hs]
        clear hs hx al HX HR HL HL2 HN
        cases hw : (x.id == id)
        · have HF2 : Hid (∀ (j : Nat) y, j < k + 1 → m.messages[j]? = some y → (y.id == id) = false) := Mx.upto_succ (p := fun y : Mx.Msg => y.id == id) HX1.out HF.out hw
          have hne : ((x.id : Int) == (id : Int)) = false := beq_eq_false_iff_ne.2 (fun e => by have := beq_eq_false_iff_ne.1 hw; omega)
          clear hw HE1 HE2 HF HX1
          go_wp2
          first
            | exact ⟨⟨k + 1, by omega, by simp, HX5.out _, HR5.out _, HF2⟩, by simp [intOf]; omega⟩
            | (go_roundw; (case rel => exact ⟨k + 1, by omega, rfl, HX5.out _, HR5.out _, HF2⟩); (case measure => simp only [intOf]; omega))
        · have hR := HE1.out k x HX1.out HF.out hw
          obtain he : x.id = id := beq_iff_eq.1 hw
          subst he
          subst hR
          clear HE1 HE2 HF hw HX1
          go_wp2
          go_ret
          exact ⟨rfl, (HX5.out _).below⟩
      · have hR := HE2.out (fun j y hy => HF.out j y (by have := HL2.out j y hy; omega) hy)
        subst hR
        clear HE1 HE2 HL HL2
        go_wp2
        go_ret
        exact ⟨rfl, HX.out.below⟩
set_option maxRecDepth 100000 in
set_option maxHeartbeats 4000000 in
theorem mk_headOf (w : World) (m : Mx.M) (a : Ma) : Calls Tryd.prog 28 #[.agg (mCs m a)] w fun e w' => e = .returned (.agg (Bk.hCs m)) ∧ Below w.heap.size w w' := by
  have HR : ∀ o, RowT 27 ((w.alloc (.cells (mCs m a) 27)).alloc o) w.heap.size (mCs m a) := fun o => (RowT.new 27 w (mCs m a)).on ((Below.refl _ _).alloc (Nat.le_refl _) _)
  have x0 := fun o => (HR o).mat.1
  have x1 := fun o => (HR o).mat.2.1
  have x2 := fun o => (HR o).mat.2.2.1
  have x3 := fun o => (HR o).mat.2.2.2.1
  have x4 := fun o => (HR o).mat.2.2.2.2.1
  have x5 := fun o => (HR o).mat.2.2.2.2.2.1
  have x6 := fun o => (HR o).mat.2.2.2.2.2.2.1
  have x7 := fun o => (HR o).mat.2.2.2.2.2.2.2.1
  clear HR
  generalize mCs m a = cs at *
  go_enter Tryd.func28, Tryd.ntmps28
  go_wp2
  exact bodyPost_ret (v := .agg (Bk.hCs m)) (by simp [results, Tryd.results28, go_sem, Bk.hCs]) rfl ⟨rfl, ((Below.refl _ _).alloc (Nat.le_refl _) _).alloc (by simp) _⟩
/-- A matrix in a block, its head in another. -/
structure Bk.Hb (W w : World) (q : Nat) (m : Mx.M) (a : Ma) : Prop where
  bx : Bx W w W.heap.size m a
  hd : RowT 52 w q (Bk.hCs m)
theorem Bk.Hb.on {W w w' : World} {q : Nat} {m : Mx.M} {a : Ma} (h : Bk.Hb W w q m a) (hb : Below w.heap.size w w') : Bk.Hb W w' q m a := ⟨h.bx.on hb, h.hd.on hb⟩
set_option maxRecDepth 100000 in
set_option maxHeartbeats 4000000 in
theorem mk_is (W : World) (hT : Tab W) (m : Mx.M) (a : Ma) (hm : MIn W m a) (hS : Mx.Small m) : Calls Tryd.prog 13 #[mV m a] W fun e w' => e = .returned (.bool (Mx.is m)) ∧ Below W.heap.size W w' := by
  have HX : Hid (Bx W (W.alloc (.cells (mCs m a) 27)) W.heap.size m a) := Bx.mk' hm
  have HQ : Hid (∀ w, Below W.heap.size W w → Tab w) := fun w hb => hT.below hb
  have C1 : Hid (∀ w, Calls Tryd.prog 28 #[.agg (mCs m a)] w fun e w' => e = .returned (.agg (Bk.hCs m)) ∧ Below w.heap.size w w') := fun w => mk_headOf w m a
  have C2 : Hid (∀ w b, Below W.heap.size W w → Bk.hd m = b → Calls Tryd.prog 29 #[.agg (Bk.hCs m)] w fun e w' => e = .returned (.bool b) ∧ Below w.heap.size w w') := fun w b hb e => by subst e; exact mk_head w (HQ.out w hb) m
  have C3 : Hid (∀ w b, Bx W w W.heap.size m a → (decide (m.masters.length ≤ 4) && m.masters.all (fun x => Mx.within x 0 99)) = b → Calls Tryd.prog 30 #[.slice a.s1 m.masters.length a.c1, .int .i64 4, .func (.func 31) #[] #[]] w fun e w' => e = .returned (.bool b) ∧ Below w.heap.size w w') := fun w b hb e => by subst e; exact mk_all1 w (HQ.out w hb.below) m.masters a.s1 a.c1 hb.mem.l1 hS.a
  have C4 : Hid (∀ w b, Bx W w W.heap.size m a → (decide (m.messages.length ≤ 12) && m.messages.all Mx.msgOk) = b → Calls Tryd.prog 32 #[.slice a.s2 m.messages.length a.c2, .int .i64 12, .func (.func 33) #[] #[]] w fun e w' => e = .returned (.bool b) ∧ Below w.heap.size w w') := fun w b hb e => by subst e; exact mk_all2 w (HQ.out w hb.below) m.messages a.s2 a.c2 hb.mem.l2 hS.b
  have C5 : Hid (∀ w b, Bx W w W.heap.size m a → (decide (m.windows.length ≤ 16) && m.windows.all (Bk.win m)) = b → Calls Tryd.prog 34 #[.slice a.s3 m.windows.length a.c3, .int .i64 16, .func (.func 35) #[.agg (Bk.hCs m)] #[]] w fun e w' => e = .returned (.bool b) ∧ Below w.heap.size w w') := fun w b hb e => by subst e; exact mk_all3 w (HQ.out w hb.below) m m.windows a.s3 a.c3 hb.mem.l3 hS.c
  rw [Bk.is_eq]
  clear hm hS hT HQ
  generalize m.masters.all (fun x => Mx.within x 0 99) = r1 at C3 ⊢
  generalize m.messages.all Mx.msgOk = r2 at C4 ⊢
  generalize m.windows.all (Bk.win m) = r3 at C5 ⊢
  show Calls _ _ #[.agg (mCs m a)] _ _
  generalize hR : (Bk.hd m && decide (0 < m.masters.length) && (decide (m.masters.length ≤ 4) && r1) && (decide (m.messages.length ≤ 12) && r2) && (decide (m.windows.length ≤ 16) && r3)) = R
  have HR : Hid ((Bk.hd m && decide (0 < m.masters.length) && (decide (m.masters.length ≤ 4) && r1) && (decide (m.messages.length ≤ 12) && r2) && (decide (m.windows.length ≤ 16) && r3)) = R) := hR
  clear hR
  have y := HX.out.row.mat
  obtain ⟨x0, x1, x2, x3, x4, x5, x6, x7, x8, x9, x10⟩ := y
  go_enter Tryd.func13, Tryd.ntmps13
  go_wp2_with fail
  refine (C1.out _).mono ?_
  rintro e w1 ⟨rfl, hb⟩
  clear x0 x1 x2 x3 x4 x5 x6 x7 x8 x9 x10
  replace HX : Hid (Bx W w1 W.heap.size m a) := HX.out.on hb
  clear hb C1
  have HH : Hid (Bk.Hb W (w1.alloc (.cells #[.int .i64 m.level, .int .i64 m.nodes, .int .i64 m.cycles, .int .i64 m.length, .int .i64 m.enable, .int .i64 m.unit, .int .i64 m.init, .int .u32 (m.ref : Int)] 52)) w1.heap.size m a) := ⟨HX.out.on ((Below.refl _ _).alloc (Nat.le_refl _) _), RowT.new _ _ _⟩
  clear HX
  dsimp only [Bk.hCs]
  go_upto_region 2 with fail
  generalize w1.alloc (.cells #[.int .i64 m.level, .int .i64 m.nodes, .int .i64 m.cycles, .int .i64 m.length, .int .i64 m.enable, .int .i64 m.unit, .int .i64 m.init, .int .u32 (m.ref : Int)] 52) = v1 at HH ⊢
  generalize w1.heap.size = q at HH ⊢
  obtain ⟨h0, h1, h2, h3, h4, h5, h6, h7⟩ := Bk.hCells HH.out.hd
  cases b1 : Bk.hd m
  · skip
    obtain rfl : R = false := by
      have h := HR.out
      rw [b1] at h
      exact h.symm
    clear HR
    go_wp2_with fail
    refine (C2.out _ _ HH.out.bx.below b1).mono ?_
    rintro e w2 ⟨rfl, hb⟩
    replace HH : Hid (Bk.Hb W w2 q m a) := HH.out.on hb
    clear hb h0 h1 h2 h3 h4 h5 h6 h7
    go_wp2
    go_ret
    exact ⟨rfl, HH.out.bx.below⟩
  · skip
    go_wp2_with fail
    refine (C2.out _ _ HH.out.bx.below b1).mono ?_
    rintro e w2 ⟨rfl, hb⟩
    replace HH : Hid (Bk.Hb W w2 q m a) := HH.out.on hb
    clear hb h0 h1 h2 h3 h4 h5 h6 h7
    obtain ⟨_, _, _, _, _, _, _, _, x8, _, _⟩ := HH.out.bx.row.mat
    by_cases g0 : 0 < m.masters.length
    · have g1 : (0 : Int) < (m.masters.length : Int) := by omega
      have b0 : decide (0 < m.masters.length) = true := decide_eq_true g0
      cases b2 : (decide (m.masters.length ≤ 4) && r1)
      · skip
        obtain rfl : R = false := by
          have h := HR.out
          rw [b1, b0, b2] at h
          exact h.symm
        clear HR
        go_wp2_with fail
        refine (C3.out _ _ HH.out.bx b2).mono ?_
        rintro e w3 ⟨rfl, hb⟩
        replace HH : Hid (Bk.Hb W w3 q m a) := HH.out.on hb
        clear hb x8
        go_wp2
        go_ret
        exact ⟨rfl, HH.out.bx.below⟩
      · skip
        go_wp2_with fail
        refine (C3.out _ _ HH.out.bx b2).mono ?_
        rintro e w3 ⟨rfl, hb⟩
        replace HH : Hid (Bk.Hb W w3 q m a) := HH.out.on hb
        clear hb x8
        obtain ⟨_, _, _, _, _, _, _, _, _, x9, _⟩ := HH.out.bx.row.mat
        cases b3 : (decide (m.messages.length ≤ 12) && r2)
        · skip
          obtain rfl : R = false := by
            have h := HR.out
            rw [b1, b0, b2, b3] at h
            exact h.symm
          clear HR
          go_wp2_with fail
          refine (C4.out _ _ HH.out.bx b3).mono ?_
          rintro e w4 ⟨rfl, hb⟩
          replace HH : Hid (Bk.Hb W w4 q m a) := HH.out.on hb
          clear hb x9
          go_wp2
          go_ret
          exact ⟨rfl, HH.out.bx.below⟩
        · skip
          go_wp2_with fail
          refine (C4.out _ _ HH.out.bx b3).mono ?_
          rintro e w4 ⟨rfl, hb⟩
          replace HH : Hid (Bk.Hb W w4 q m a) := HH.out.on hb
          clear hb x9
          obtain ⟨h0, h1, h2, h3, h4, h5, h6, h7⟩ := Bk.hCells HH.out.hd
          obtain ⟨_, _, _, _, _, _, _, _, _, _, x10⟩ := HH.out.bx.row.mat
          cases b4 : (decide (m.windows.length ≤ 16) && r3)
          · skip
            obtain rfl : R = false := by
              have h := HR.out
              rw [b1, b0, b2, b3, b4] at h
              exact h.symm
            clear HR
            go_wp2_with fail
            refine (C5.out _ _ HH.out.bx b4).mono ?_
            rintro e w5 ⟨rfl, hb⟩
            replace HH : Hid (Bk.Hb W w5 q m a) := HH.out.on hb
            clear hb x10 h0 h1 h2 h3 h4 h5 h6 h7
            go_wp2
            go_ret
            exact ⟨rfl, HH.out.bx.below⟩
          · skip
            obtain rfl : R = true := by
              have h := HR.out
              rw [b1, b0, b2, b3, b4] at h
              exact h.symm
            clear HR
            go_wp2_with fail
            refine (C5.out _ _ HH.out.bx b4).mono ?_
            rintro e w5 ⟨rfl, hb⟩
            replace HH : Hid (Bk.Hb W w5 q m a) := HH.out.on hb
            clear hb x10 h0 h1 h2 h3 h4 h5 h6 h7
            go_wp2
            go_ret
            exact ⟨rfl, HH.out.bx.below⟩
    · have g1 : ¬ ((0 : Int) < (m.masters.length : Int)) := by omega
      have b0 : decide (0 < m.masters.length) = false := decide_eq_false g0
      obtain rfl : R = false := by
        have h := HR.out
        rw [b1, b0] at h
        exact h.symm
      clear HR
      go_wp2
      go_ret
      exact ⟨rfl, HH.out.bx.below⟩
set_option maxRecDepth 100000 in
set_option maxHeartbeats 4000000 in
theorem mk_same (W : World) (m n : Mx.M) (a b : Ma) (hm : MIn W m a) (hn : MIn W n b) (hS : Mx.Small m) (hS2 : Mx.Small n) : Calls Tryd.prog 15 #[mV m a, mV n b] W fun e w' => e = .returned (.bool (decide (m = n))) ∧ Below W.heap.size W w' := by
  have HX0 : Hid (Bx W (W.alloc (.cells (mCs m a) 27)) W.heap.size m a) := Bx.mk' hm
  have hsz : (W.alloc (.cells (mCs m a) 27)).heap.size = W.heap.size + 1 := by simp
  have HX : Hid (Bx W ((W.alloc (.cells (mCs m a) 27)).alloc (.cells (mCs n b) 27)) W.heap.size m a) := HX0.out.on ((Below.refl _ _).alloc (Nat.le_refl _) _)
  have HY : Hid (Bx W ((W.alloc (.cells (mCs m a) 27)).alloc (.cells (mCs n b) 27)) (W.heap.size + 1) n b) := ⟨by rw [← hsz]; exact RowT.new _ _ _, hn.on HX.out.below, HX.out.below⟩
  have C1 : Hid (∀ w (m : Mx.M) (a : Ma), Calls Tryd.prog 28 #[.agg (mCs m a)] w fun e w' => e = .returned (.agg (Bk.hCs m)) ∧ Below w.heap.size w w') := mk_headOf
  have D1 : Hid (∀ w (e : Bool), Bx W w W.heap.size m a → Bx W w (W.heap.size + 1) n b → decide (m.masters = n.masters) = e → Calls Tryd.prog 38 #[.slice a.s1 m.masters.length a.c1, .slice b.s1 n.masters.length b.c1] w fun x w' => x = .returned (.bool e) ∧ Below w.heap.size w w') := fun w e h h2 he => by subst he; exact mk_alike1 w m.masters n.masters a.s1 b.s1 a.c1 b.c1 h.mem.l1 h2.mem.l1 hS.a hS2.a
  have D2 : Hid (∀ w (e : Bool), Bx W w W.heap.size m a → Bx W w (W.heap.size + 1) n b → decide (m.messages = n.messages) = e → Calls Tryd.prog 39 #[.slice a.s2 m.messages.length a.c2, .slice b.s2 n.messages.length b.c2] w fun x w' => x = .returned (.bool e) ∧ Below w.heap.size w w') := fun w e h h2 he => by subst he; exact mk_alike2 w m.messages n.messages a.s2 b.s2 a.c2 b.c2 h.mem.l2 h2.mem.l2 hS.b hS2.b
  have D3 : Hid (∀ w (e : Bool), Bx W w W.heap.size m a → Bx W w (W.heap.size + 1) n b → decide (m.windows = n.windows) = e → Calls Tryd.prog 40 #[.slice a.s3 m.windows.length a.c3, .slice b.s3 n.windows.length b.c3] w fun x w' => x = .returned (.bool e) ∧ Below w.heap.size w w') := fun w e h h2 he => by subst he; exact mk_alike3 w m.windows n.windows a.s3 b.s3 a.c3 b.c3 h.mem.l3 h2.mem.l3 hS.c hS2.c
  show Calls _ _ #[.agg (mCs m a), .agg (mCs n b)] _ _
  clear hm hn hS hS2 HX0 hsz
  obtain ⟨p0, p1, p2, p3, p4, p5, p6, p7, l1, l2, l3⟩ := m
  obtain ⟨r0, r1, r2, r3, r4, r5, r6, r7, k1, k2, k3⟩ := n
  dsimp only at D1 D2 D3
  generalize hR : decide ((⟨p0, p1, p2, p3, p4, p5, p6, p7, l1, l2, l3⟩ : Mx.M) = ⟨r0, r1, r2, r3, r4, r5, r6, r7, k1, k2, k3⟩) = R
  have HR : Hid (decide ((⟨p0, p1, p2, p3, p4, p5, p6, p7, l1, l2, l3⟩ : Mx.M) = ⟨r0, r1, r2, r3, r4, r5, r6, r7, k1, k2, k3⟩) = R) := hR
  clear hR
  go_enter Tryd.func15, Tryd.ntmps15
  go_upto_region 1 with fail
  generalize (W.alloc (.cells (mCs ⟨p0, p1, p2, p3, p4, p5, p6, p7, l1, l2, l3⟩ a) 27)).alloc (.cells (mCs ⟨r0, r1, r2, r3, r4, r5, r6, r7, k1, k2, k3⟩ b) 27) = wB at HX HY ⊢
  by_cases e0 : p0 = r0
  · subst e0
    by_cases e1 : p1 = r1
    · subst e1
      by_cases e2 : p2 = r2
      · subst e2
        by_cases e3 : p3 = r3
        · subst e3
          by_cases e4 : p4 = r4
          · subst e4
            by_cases e5 : p5 = r5
            · subst e5
              by_cases e6 : p6 = r6
              · subst e6
                by_cases e7 : p7 = r7
                · subst e7
                  cases b1 : decide (l1 = k1)
                  · have hR : decide ((⟨p0, p1, p2, p3, p4, p5, p6, p7, l1, l2, l3⟩ : Mx.M) = ⟨p0, p1, p2, p3, p4, p5, p6, p7, k1, k2, k3⟩) = false := decide_eq_false (fun z => of_decide_eq_false b1 (congrArg Mx.M.masters z))
                    have HA : Hid (∀ w, Calls Tryd.prog 28 #[.agg #[.int .i64 p0, .int .i64 p1, .int .i64 p2, .int .i64 p3, .int .i64 p4, .int .i64 p5, .int .i64 p6, .int .u32 (p7 : Int), .slice a.s1 l1.length a.c1, .slice a.s2 l2.length a.c2, .slice a.s3 l3.length a.c3]] w fun e w' => e = .returned (.agg #[.int .i64 p0, .int .i64 p1, .int .i64 p2, .int .i64 p3, .int .i64 p4, .int .i64 p5, .int .i64 p6, .int .u32 (p7 : Int)]) ∧ Below w.heap.size w w') := fun w => C1.out w ⟨p0, p1, p2, p3, p4, p5, p6, p7, l1, l2, l3⟩ a
                    have HA2 : Hid (∀ w, Calls Tryd.prog 28 #[.agg #[.int .i64 p0, .int .i64 p1, .int .i64 p2, .int .i64 p3, .int .i64 p4, .int .i64 p5, .int .i64 p6, .int .u32 (p7 : Int), .slice b.s1 k1.length b.c1, .slice b.s2 k2.length b.c2, .slice b.s3 k3.length b.c3]] w fun e w' => e = .returned (.agg #[.int .i64 p0, .int .i64 p1, .int .i64 p2, .int .i64 p3, .int .i64 p4, .int .i64 p5, .int .i64 p6, .int .u32 (p7 : Int)]) ∧ Below w.heap.size w w') := fun w => C1.out w ⟨p0, p1, p2, p3, p4, p5, p6, p7, k1, k2, k3⟩ b
                    obtain rfl : R = false := HR.out.symm.trans hR
                    clear hR HR C1
                    refine Lw.wp_region_quiet_below (by kernel_rfl) (by kernel_rfl) ?_
                    repeat (first
                      | go_big_quiet_skip
                      | (go_big_quiet_want; go_big_quiet_op; go_big_quiet_on)
                      | (go_big_quiet_want; go_big_quiet_op; apply Exists.intro; refine ⟨fun _ hb' => ?_, ?_⟩; (first
                        | exact Lw.val_rfl _
                        | (go_at_call_of 28 (Value.agg #[.int .i64 p0, .int .i64 p1, .int .i64 p2, .int .i64 p3, .int .i64 p4, .int .i64 p5, .int .i64 p6, .int .u32 (p7 : Int), .slice a.s1 l1.length a.c1, .slice a.s2 l2.length a.c2, .slice a.s3 l3.length a.c3]); exact Lw.calls_below hb' (HA.out _))
                        | (go_at_call 28; exact Lw.calls_below hb' (HA2.out _))
                        | (go_at_call 38; exact Lw.calls_below hb' (D1.out _ _ (HX.out.on hb') (HY.out.on hb') b1))
                        | (simp [go_sem, (HX.out.on hb').row.mat.1, (HX.out.on hb').row.mat.2.1, (HX.out.on hb').row.mat.2.2.1, (HX.out.on hb').row.mat.2.2.2.1, (HX.out.on hb').row.mat.2.2.2.2.1, (HX.out.on hb').row.mat.2.2.2.2.2.1, (HX.out.on hb').row.mat.2.2.2.2.2.2.1, (HX.out.on hb').row.mat.2.2.2.2.2.2.2.1, (HX.out.on hb').row.mat.2.2.2.2.2.2.2.2.1, (HX.out.on hb').row.mat.2.2.2.2.2.2.2.2.2.1, (HX.out.on hb').row.mat.2.2.2.2.2.2.2.2.2.2]; rfl)
                        | (simp [go_sem, (HY.out.on hb').row.mat.1, (HY.out.on hb').row.mat.2.1, (HY.out.on hb').row.mat.2.2.1, (HY.out.on hb').row.mat.2.2.2.1, (HY.out.on hb').row.mat.2.2.2.2.1, (HY.out.on hb').row.mat.2.2.2.2.2.1, (HY.out.on hb').row.mat.2.2.2.2.2.2.1, (HY.out.on hb').row.mat.2.2.2.2.2.2.2.1, (HY.out.on hb').row.mat.2.2.2.2.2.2.2.2.1, (HY.out.on hb').row.mat.2.2.2.2.2.2.2.2.2.1, (HY.out.on hb').row.mat.2.2.2.2.2.2.2.2.2.2]; rfl)); go_big_quiet_on))
                    refine wpQuiet_nil ?_
                    intro w5 hb5
                    have HX5 := HX.out.on hb5
                    clear HX HY
                    go_wp2
                    go_ret
                    exact ⟨rfl, HX5.below⟩
                  · skip
                    cases b2 : decide (l2 = k2)
                    · have hR : decide ((⟨p0, p1, p2, p3, p4, p5, p6, p7, l1, l2, l3⟩ : Mx.M) = ⟨p0, p1, p2, p3, p4, p5, p6, p7, k1, k2, k3⟩) = false := decide_eq_false (fun z => of_decide_eq_false b2 (congrArg Mx.M.messages z))
                      have HA : Hid (∀ w, Calls Tryd.prog 28 #[.agg #[.int .i64 p0, .int .i64 p1, .int .i64 p2, .int .i64 p3, .int .i64 p4, .int .i64 p5, .int .i64 p6, .int .u32 (p7 : Int), .slice a.s1 l1.length a.c1, .slice a.s2 l2.length a.c2, .slice a.s3 l3.length a.c3]] w fun e w' => e = .returned (.agg #[.int .i64 p0, .int .i64 p1, .int .i64 p2, .int .i64 p3, .int .i64 p4, .int .i64 p5, .int .i64 p6, .int .u32 (p7 : Int)]) ∧ Below w.heap.size w w') := fun w => C1.out w ⟨p0, p1, p2, p3, p4, p5, p6, p7, l1, l2, l3⟩ a
                      have HA2 : Hid (∀ w, Calls Tryd.prog 28 #[.agg #[.int .i64 p0, .int .i64 p1, .int .i64 p2, .int .i64 p3, .int .i64 p4, .int .i64 p5, .int .i64 p6, .int .u32 (p7 : Int), .slice b.s1 k1.length b.c1, .slice b.s2 k2.length b.c2, .slice b.s3 k3.length b.c3]] w fun e w' => e = .returned (.agg #[.int .i64 p0, .int .i64 p1, .int .i64 p2, .int .i64 p3, .int .i64 p4, .int .i64 p5, .int .i64 p6, .int .u32 (p7 : Int)]) ∧ Below w.heap.size w w') := fun w => C1.out w ⟨p0, p1, p2, p3, p4, p5, p6, p7, k1, k2, k3⟩ b
                      obtain rfl : R = false := HR.out.symm.trans hR
                      clear hR HR C1
                      refine Lw.wp_region_quiet_below (by kernel_rfl) (by kernel_rfl) ?_
                      repeat (first
                        | go_big_quiet_skip
                        | (go_big_quiet_want; go_big_quiet_op; go_big_quiet_on)
                        | (go_big_quiet_want; go_big_quiet_op; apply Exists.intro; refine ⟨fun _ hb' => ?_, ?_⟩; (first
                          | exact Lw.val_rfl _
                          | (go_at_call_of 28 (Value.agg #[.int .i64 p0, .int .i64 p1, .int .i64 p2, .int .i64 p3, .int .i64 p4, .int .i64 p5, .int .i64 p6, .int .u32 (p7 : Int), .slice a.s1 l1.length a.c1, .slice a.s2 l2.length a.c2, .slice a.s3 l3.length a.c3]); exact Lw.calls_below hb' (HA.out _))
                          | (go_at_call 28; exact Lw.calls_below hb' (HA2.out _))
                          | (go_at_call 38; exact Lw.calls_below hb' (D1.out _ _ (HX.out.on hb') (HY.out.on hb') b1))
                          | (go_at_call 39; exact Lw.calls_below hb' (D2.out _ _ (HX.out.on hb') (HY.out.on hb') b2))
                          | (simp [go_sem, (HX.out.on hb').row.mat.1, (HX.out.on hb').row.mat.2.1, (HX.out.on hb').row.mat.2.2.1, (HX.out.on hb').row.mat.2.2.2.1, (HX.out.on hb').row.mat.2.2.2.2.1, (HX.out.on hb').row.mat.2.2.2.2.2.1, (HX.out.on hb').row.mat.2.2.2.2.2.2.1, (HX.out.on hb').row.mat.2.2.2.2.2.2.2.1, (HX.out.on hb').row.mat.2.2.2.2.2.2.2.2.1, (HX.out.on hb').row.mat.2.2.2.2.2.2.2.2.2.1, (HX.out.on hb').row.mat.2.2.2.2.2.2.2.2.2.2]; rfl)
                          | (simp [go_sem, (HY.out.on hb').row.mat.1, (HY.out.on hb').row.mat.2.1, (HY.out.on hb').row.mat.2.2.1, (HY.out.on hb').row.mat.2.2.2.1, (HY.out.on hb').row.mat.2.2.2.2.1, (HY.out.on hb').row.mat.2.2.2.2.2.1, (HY.out.on hb').row.mat.2.2.2.2.2.2.1, (HY.out.on hb').row.mat.2.2.2.2.2.2.2.1, (HY.out.on hb').row.mat.2.2.2.2.2.2.2.2.1, (HY.out.on hb').row.mat.2.2.2.2.2.2.2.2.2.1, (HY.out.on hb').row.mat.2.2.2.2.2.2.2.2.2.2]; rfl)); go_big_quiet_on))
                      refine wpQuiet_nil ?_
                      intro w5 hb5
                      have HX5 := HX.out.on hb5
                      clear HX HY
                      go_wp2
                      go_ret
                      exact ⟨rfl, HX5.below⟩
                    · skip
                      cases b3 : decide (l3 = k3)
                      · have hR : decide ((⟨p0, p1, p2, p3, p4, p5, p6, p7, l1, l2, l3⟩ : Mx.M) = ⟨p0, p1, p2, p3, p4, p5, p6, p7, k1, k2, k3⟩) = false := decide_eq_false (fun z => of_decide_eq_false b3 (congrArg Mx.M.windows z))
                        have HA : Hid (∀ w, Calls Tryd.prog 28 #[.agg #[.int .i64 p0, .int .i64 p1, .int .i64 p2, .int .i64 p3, .int .i64 p4, .int .i64 p5, .int .i64 p6, .int .u32 (p7 : Int), .slice a.s1 l1.length a.c1, .slice a.s2 l2.length a.c2, .slice a.s3 l3.length a.c3]] w fun e w' => e = .returned (.agg #[.int .i64 p0, .int .i64 p1, .int .i64 p2, .int .i64 p3, .int .i64 p4, .int .i64 p5, .int .i64 p6, .int .u32 (p7 : Int)]) ∧ Below w.heap.size w w') := fun w => C1.out w ⟨p0, p1, p2, p3, p4, p5, p6, p7, l1, l2, l3⟩ a
                        have HA2 : Hid (∀ w, Calls Tryd.prog 28 #[.agg #[.int .i64 p0, .int .i64 p1, .int .i64 p2, .int .i64 p3, .int .i64 p4, .int .i64 p5, .int .i64 p6, .int .u32 (p7 : Int), .slice b.s1 k1.length b.c1, .slice b.s2 k2.length b.c2, .slice b.s3 k3.length b.c3]] w fun e w' => e = .returned (.agg #[.int .i64 p0, .int .i64 p1, .int .i64 p2, .int .i64 p3, .int .i64 p4, .int .i64 p5, .int .i64 p6, .int .u32 (p7 : Int)]) ∧ Below w.heap.size w w') := fun w => C1.out w ⟨p0, p1, p2, p3, p4, p5, p6, p7, k1, k2, k3⟩ b
                        obtain rfl : R = false := HR.out.symm.trans hR
                        clear hR HR C1
                        refine Lw.wp_region_quiet_below (by kernel_rfl) (by kernel_rfl) ?_
                        repeat (first
                          | go_big_quiet_skip
                          | (go_big_quiet_want; go_big_quiet_op; go_big_quiet_on)
                          | (go_big_quiet_want; go_big_quiet_op; apply Exists.intro; refine ⟨fun _ hb' => ?_, ?_⟩; (first
                            | exact Lw.val_rfl _
                            | (go_at_call_of 28 (Value.agg #[.int .i64 p0, .int .i64 p1, .int .i64 p2, .int .i64 p3, .int .i64 p4, .int .i64 p5, .int .i64 p6, .int .u32 (p7 : Int), .slice a.s1 l1.length a.c1, .slice a.s2 l2.length a.c2, .slice a.s3 l3.length a.c3]); exact Lw.calls_below hb' (HA.out _))
                            | (go_at_call 28; exact Lw.calls_below hb' (HA2.out _))
                            | (go_at_call 38; exact Lw.calls_below hb' (D1.out _ _ (HX.out.on hb') (HY.out.on hb') b1))
                            | (go_at_call 39; exact Lw.calls_below hb' (D2.out _ _ (HX.out.on hb') (HY.out.on hb') b2))
                            | (go_at_call 40; exact Lw.calls_below hb' (D3.out _ _ (HX.out.on hb') (HY.out.on hb') b3))
                            | (simp [go_sem, (HX.out.on hb').row.mat.1, (HX.out.on hb').row.mat.2.1, (HX.out.on hb').row.mat.2.2.1, (HX.out.on hb').row.mat.2.2.2.1, (HX.out.on hb').row.mat.2.2.2.2.1, (HX.out.on hb').row.mat.2.2.2.2.2.1, (HX.out.on hb').row.mat.2.2.2.2.2.2.1, (HX.out.on hb').row.mat.2.2.2.2.2.2.2.1, (HX.out.on hb').row.mat.2.2.2.2.2.2.2.2.1, (HX.out.on hb').row.mat.2.2.2.2.2.2.2.2.2.1, (HX.out.on hb').row.mat.2.2.2.2.2.2.2.2.2.2]; rfl)
                            | (simp [go_sem, (HY.out.on hb').row.mat.1, (HY.out.on hb').row.mat.2.1, (HY.out.on hb').row.mat.2.2.1, (HY.out.on hb').row.mat.2.2.2.1, (HY.out.on hb').row.mat.2.2.2.2.1, (HY.out.on hb').row.mat.2.2.2.2.2.1, (HY.out.on hb').row.mat.2.2.2.2.2.2.1, (HY.out.on hb').row.mat.2.2.2.2.2.2.2.1, (HY.out.on hb').row.mat.2.2.2.2.2.2.2.2.1, (HY.out.on hb').row.mat.2.2.2.2.2.2.2.2.2.1, (HY.out.on hb').row.mat.2.2.2.2.2.2.2.2.2.2]; rfl)); go_big_quiet_on))
                        refine wpQuiet_nil ?_
                        intro w5 hb5
                        have HX5 := HX.out.on hb5
                        clear HX HY
                        go_wp2
                        go_ret
                        exact ⟨rfl, HX5.below⟩
                      · have hR : decide ((⟨p0, p1, p2, p3, p4, p5, p6, p7, l1, l2, l3⟩ : Mx.M) = ⟨p0, p1, p2, p3, p4, p5, p6, p7, k1, k2, k3⟩) = true := decide_eq_true (by rw [of_decide_eq_true b1, of_decide_eq_true b2, of_decide_eq_true b3])
                        have HA : Hid (∀ w, Calls Tryd.prog 28 #[.agg #[.int .i64 p0, .int .i64 p1, .int .i64 p2, .int .i64 p3, .int .i64 p4, .int .i64 p5, .int .i64 p6, .int .u32 (p7 : Int), .slice a.s1 l1.length a.c1, .slice a.s2 l2.length a.c2, .slice a.s3 l3.length a.c3]] w fun e w' => e = .returned (.agg #[.int .i64 p0, .int .i64 p1, .int .i64 p2, .int .i64 p3, .int .i64 p4, .int .i64 p5, .int .i64 p6, .int .u32 (p7 : Int)]) ∧ Below w.heap.size w w') := fun w => C1.out w ⟨p0, p1, p2, p3, p4, p5, p6, p7, l1, l2, l3⟩ a
                        have HA2 : Hid (∀ w, Calls Tryd.prog 28 #[.agg #[.int .i64 p0, .int .i64 p1, .int .i64 p2, .int .i64 p3, .int .i64 p4, .int .i64 p5, .int .i64 p6, .int .u32 (p7 : Int), .slice b.s1 k1.length b.c1, .slice b.s2 k2.length b.c2, .slice b.s3 k3.length b.c3]] w fun e w' => e = .returned (.agg #[.int .i64 p0, .int .i64 p1, .int .i64 p2, .int .i64 p3, .int .i64 p4, .int .i64 p5, .int .i64 p6, .int .u32 (p7 : Int)]) ∧ Below w.heap.size w w') := fun w => C1.out w ⟨p0, p1, p2, p3, p4, p5, p6, p7, k1, k2, k3⟩ b
                        obtain rfl : R = true := HR.out.symm.trans hR
                        clear hR HR C1
                        refine Lw.wp_region_quiet_below (by kernel_rfl) (by kernel_rfl) ?_
                        repeat (first
                          | go_big_quiet_skip
                          | (go_big_quiet_want; go_big_quiet_op; go_big_quiet_on)
                          | (go_big_quiet_want; go_big_quiet_op; apply Exists.intro; refine ⟨fun _ hb' => ?_, ?_⟩; (first
                            | exact Lw.val_rfl _
                            | (go_at_call_of 28 (Value.agg #[.int .i64 p0, .int .i64 p1, .int .i64 p2, .int .i64 p3, .int .i64 p4, .int .i64 p5, .int .i64 p6, .int .u32 (p7 : Int), .slice a.s1 l1.length a.c1, .slice a.s2 l2.length a.c2, .slice a.s3 l3.length a.c3]); exact Lw.calls_below hb' (HA.out _))
                            | (go_at_call 28; exact Lw.calls_below hb' (HA2.out _))
                            | (go_at_call 38; exact Lw.calls_below hb' (D1.out _ _ (HX.out.on hb') (HY.out.on hb') b1))
                            | (go_at_call 39; exact Lw.calls_below hb' (D2.out _ _ (HX.out.on hb') (HY.out.on hb') b2))
                            | (go_at_call 40; exact Lw.calls_below hb' (D3.out _ _ (HX.out.on hb') (HY.out.on hb') b3))
                            | (simp [go_sem, (HX.out.on hb').row.mat.1, (HX.out.on hb').row.mat.2.1, (HX.out.on hb').row.mat.2.2.1, (HX.out.on hb').row.mat.2.2.2.1, (HX.out.on hb').row.mat.2.2.2.2.1, (HX.out.on hb').row.mat.2.2.2.2.2.1, (HX.out.on hb').row.mat.2.2.2.2.2.2.1, (HX.out.on hb').row.mat.2.2.2.2.2.2.2.1, (HX.out.on hb').row.mat.2.2.2.2.2.2.2.2.1, (HX.out.on hb').row.mat.2.2.2.2.2.2.2.2.2.1, (HX.out.on hb').row.mat.2.2.2.2.2.2.2.2.2.2]; rfl)
                            | (simp [go_sem, (HY.out.on hb').row.mat.1, (HY.out.on hb').row.mat.2.1, (HY.out.on hb').row.mat.2.2.1, (HY.out.on hb').row.mat.2.2.2.1, (HY.out.on hb').row.mat.2.2.2.2.1, (HY.out.on hb').row.mat.2.2.2.2.2.1, (HY.out.on hb').row.mat.2.2.2.2.2.2.1, (HY.out.on hb').row.mat.2.2.2.2.2.2.2.1, (HY.out.on hb').row.mat.2.2.2.2.2.2.2.2.1, (HY.out.on hb').row.mat.2.2.2.2.2.2.2.2.2.1, (HY.out.on hb').row.mat.2.2.2.2.2.2.2.2.2.2]; rfl)); go_big_quiet_on))
                        refine wpQuiet_nil ?_
                        intro w5 hb5
                        have HX5 := HX.out.on hb5
                        clear HX HY
                        go_wp2
                        go_ret
                        exact ⟨rfl, HX5.below⟩
                · have hb0 : ((p7 : Int) == (r7 : Int)) = false := beq_eq_false_iff_ne.2 (by omega)
                  have hR : decide ((⟨p0, p1, p2, p3, p4, p5, p6, p7, l1, l2, l3⟩ : Mx.M) = ⟨p0, p1, p2, p3, p4, p5, p6, r7, k1, k2, k3⟩) = false := decide_eq_false (fun z => e7 (congrArg Mx.M.ref z))
                  have HA : Hid (∀ w, Calls Tryd.prog 28 #[.agg #[.int .i64 p0, .int .i64 p1, .int .i64 p2, .int .i64 p3, .int .i64 p4, .int .i64 p5, .int .i64 p6, .int .u32 (p7 : Int), .slice a.s1 l1.length a.c1, .slice a.s2 l2.length a.c2, .slice a.s3 l3.length a.c3]] w fun e w' => e = .returned (.agg #[.int .i64 p0, .int .i64 p1, .int .i64 p2, .int .i64 p3, .int .i64 p4, .int .i64 p5, .int .i64 p6, .int .u32 (p7 : Int)]) ∧ Below w.heap.size w w') := fun w => C1.out w ⟨p0, p1, p2, p3, p4, p5, p6, p7, l1, l2, l3⟩ a
                  have HA2 : Hid (∀ w, Calls Tryd.prog 28 #[.agg #[.int .i64 p0, .int .i64 p1, .int .i64 p2, .int .i64 p3, .int .i64 p4, .int .i64 p5, .int .i64 p6, .int .u32 (r7 : Int), .slice b.s1 k1.length b.c1, .slice b.s2 k2.length b.c2, .slice b.s3 k3.length b.c3]] w fun e w' => e = .returned (.agg #[.int .i64 p0, .int .i64 p1, .int .i64 p2, .int .i64 p3, .int .i64 p4, .int .i64 p5, .int .i64 p6, .int .u32 (r7 : Int)]) ∧ Below w.heap.size w w') := fun w => C1.out w ⟨p0, p1, p2, p3, p4, p5, p6, r7, k1, k2, k3⟩ b
                  obtain rfl : R = false := HR.out.symm.trans hR
                  clear hR HR C1
                  refine Lw.wp_region_quiet_below (by kernel_rfl) (by kernel_rfl) ?_
                  repeat (first
                    | go_big_quiet_skip
                    | (go_big_quiet_want; go_big_quiet_op; go_big_quiet_on)
                    | (go_big_quiet_want; go_big_quiet_op; apply Exists.intro; refine ⟨fun _ hb' => ?_, ?_⟩; (first
                      | exact Lw.val_rfl _
                      | (go_at_call_of 28 (Value.agg #[.int .i64 p0, .int .i64 p1, .int .i64 p2, .int .i64 p3, .int .i64 p4, .int .i64 p5, .int .i64 p6, .int .u32 (p7 : Int), .slice a.s1 l1.length a.c1, .slice a.s2 l2.length a.c2, .slice a.s3 l3.length a.c3]); exact Lw.calls_below hb' (HA.out _))
                      | (go_at_call 28; exact Lw.calls_below hb' (HA2.out _))
                      | (simp [go_sem, (HX.out.on hb').row.mat.1, (HX.out.on hb').row.mat.2.1, (HX.out.on hb').row.mat.2.2.1, (HX.out.on hb').row.mat.2.2.2.1, (HX.out.on hb').row.mat.2.2.2.2.1, (HX.out.on hb').row.mat.2.2.2.2.2.1, (HX.out.on hb').row.mat.2.2.2.2.2.2.1, (HX.out.on hb').row.mat.2.2.2.2.2.2.2.1, (HX.out.on hb').row.mat.2.2.2.2.2.2.2.2.1, (HX.out.on hb').row.mat.2.2.2.2.2.2.2.2.2.1, (HX.out.on hb').row.mat.2.2.2.2.2.2.2.2.2.2]; rfl)
                      | (simp [go_sem, (HY.out.on hb').row.mat.1, (HY.out.on hb').row.mat.2.1, (HY.out.on hb').row.mat.2.2.1, (HY.out.on hb').row.mat.2.2.2.1, (HY.out.on hb').row.mat.2.2.2.2.1, (HY.out.on hb').row.mat.2.2.2.2.2.1, (HY.out.on hb').row.mat.2.2.2.2.2.2.1, (HY.out.on hb').row.mat.2.2.2.2.2.2.2.1, (HY.out.on hb').row.mat.2.2.2.2.2.2.2.2.1, (HY.out.on hb').row.mat.2.2.2.2.2.2.2.2.2.1, (HY.out.on hb').row.mat.2.2.2.2.2.2.2.2.2.2]; rfl)); go_big_quiet_on))
                  refine wpQuiet_nil ?_
                  intro w5 hb5
                  have HX5 := HX.out.on hb5
                  clear HX HY
                  go_wp2
                  go_ret
                  exact ⟨rfl, HX5.below⟩
              · have hb0 : (p6 == r6) = false := beq_eq_false_iff_ne.2 e6
                have hR : decide ((⟨p0, p1, p2, p3, p4, p5, p6, p7, l1, l2, l3⟩ : Mx.M) = ⟨p0, p1, p2, p3, p4, p5, r6, r7, k1, k2, k3⟩) = false := decide_eq_false (fun z => e6 (congrArg Mx.M.init z))
                have HA : Hid (∀ w, Calls Tryd.prog 28 #[.agg #[.int .i64 p0, .int .i64 p1, .int .i64 p2, .int .i64 p3, .int .i64 p4, .int .i64 p5, .int .i64 p6, .int .u32 (p7 : Int), .slice a.s1 l1.length a.c1, .slice a.s2 l2.length a.c2, .slice a.s3 l3.length a.c3]] w fun e w' => e = .returned (.agg #[.int .i64 p0, .int .i64 p1, .int .i64 p2, .int .i64 p3, .int .i64 p4, .int .i64 p5, .int .i64 p6, .int .u32 (p7 : Int)]) ∧ Below w.heap.size w w') := fun w => C1.out w ⟨p0, p1, p2, p3, p4, p5, p6, p7, l1, l2, l3⟩ a
                have HA2 : Hid (∀ w, Calls Tryd.prog 28 #[.agg #[.int .i64 p0, .int .i64 p1, .int .i64 p2, .int .i64 p3, .int .i64 p4, .int .i64 p5, .int .i64 r6, .int .u32 (r7 : Int), .slice b.s1 k1.length b.c1, .slice b.s2 k2.length b.c2, .slice b.s3 k3.length b.c3]] w fun e w' => e = .returned (.agg #[.int .i64 p0, .int .i64 p1, .int .i64 p2, .int .i64 p3, .int .i64 p4, .int .i64 p5, .int .i64 r6, .int .u32 (r7 : Int)]) ∧ Below w.heap.size w w') := fun w => C1.out w ⟨p0, p1, p2, p3, p4, p5, r6, r7, k1, k2, k3⟩ b
                obtain rfl : R = false := HR.out.symm.trans hR
                clear hR HR C1
                refine Lw.wp_region_quiet_below (by kernel_rfl) (by kernel_rfl) ?_
                repeat (first
                  | go_big_quiet_skip
                  | (go_big_quiet_want; go_big_quiet_op; go_big_quiet_on)
                  | (go_big_quiet_want; go_big_quiet_op; apply Exists.intro; refine ⟨fun _ hb' => ?_, ?_⟩; (first
                    | exact Lw.val_rfl _
                    | (go_at_call_of 28 (Value.agg #[.int .i64 p0, .int .i64 p1, .int .i64 p2, .int .i64 p3, .int .i64 p4, .int .i64 p5, .int .i64 p6, .int .u32 (p7 : Int), .slice a.s1 l1.length a.c1, .slice a.s2 l2.length a.c2, .slice a.s3 l3.length a.c3]); exact Lw.calls_below hb' (HA.out _))
                    | (go_at_call 28; exact Lw.calls_below hb' (HA2.out _))
                    | (simp [go_sem, (HX.out.on hb').row.mat.1, (HX.out.on hb').row.mat.2.1, (HX.out.on hb').row.mat.2.2.1, (HX.out.on hb').row.mat.2.2.2.1, (HX.out.on hb').row.mat.2.2.2.2.1, (HX.out.on hb').row.mat.2.2.2.2.2.1, (HX.out.on hb').row.mat.2.2.2.2.2.2.1, (HX.out.on hb').row.mat.2.2.2.2.2.2.2.1, (HX.out.on hb').row.mat.2.2.2.2.2.2.2.2.1, (HX.out.on hb').row.mat.2.2.2.2.2.2.2.2.2.1, (HX.out.on hb').row.mat.2.2.2.2.2.2.2.2.2.2]; rfl)
                    | (simp [go_sem, (HY.out.on hb').row.mat.1, (HY.out.on hb').row.mat.2.1, (HY.out.on hb').row.mat.2.2.1, (HY.out.on hb').row.mat.2.2.2.1, (HY.out.on hb').row.mat.2.2.2.2.1, (HY.out.on hb').row.mat.2.2.2.2.2.1, (HY.out.on hb').row.mat.2.2.2.2.2.2.1, (HY.out.on hb').row.mat.2.2.2.2.2.2.2.1, (HY.out.on hb').row.mat.2.2.2.2.2.2.2.2.1, (HY.out.on hb').row.mat.2.2.2.2.2.2.2.2.2.1, (HY.out.on hb').row.mat.2.2.2.2.2.2.2.2.2.2]; rfl)); go_big_quiet_on))
                refine wpQuiet_nil ?_
                intro w5 hb5
                have HX5 := HX.out.on hb5
                clear HX HY
                go_wp2
                go_ret
                exact ⟨rfl, HX5.below⟩
            · have hb0 : (p5 == r5) = false := beq_eq_false_iff_ne.2 e5
              have hR : decide ((⟨p0, p1, p2, p3, p4, p5, p6, p7, l1, l2, l3⟩ : Mx.M) = ⟨p0, p1, p2, p3, p4, r5, r6, r7, k1, k2, k3⟩) = false := decide_eq_false (fun z => e5 (congrArg Mx.M.unit z))
              have HA : Hid (∀ w, Calls Tryd.prog 28 #[.agg #[.int .i64 p0, .int .i64 p1, .int .i64 p2, .int .i64 p3, .int .i64 p4, .int .i64 p5, .int .i64 p6, .int .u32 (p7 : Int), .slice a.s1 l1.length a.c1, .slice a.s2 l2.length a.c2, .slice a.s3 l3.length a.c3]] w fun e w' => e = .returned (.agg #[.int .i64 p0, .int .i64 p1, .int .i64 p2, .int .i64 p3, .int .i64 p4, .int .i64 p5, .int .i64 p6, .int .u32 (p7 : Int)]) ∧ Below w.heap.size w w') := fun w => C1.out w ⟨p0, p1, p2, p3, p4, p5, p6, p7, l1, l2, l3⟩ a
              have HA2 : Hid (∀ w, Calls Tryd.prog 28 #[.agg #[.int .i64 p0, .int .i64 p1, .int .i64 p2, .int .i64 p3, .int .i64 p4, .int .i64 r5, .int .i64 r6, .int .u32 (r7 : Int), .slice b.s1 k1.length b.c1, .slice b.s2 k2.length b.c2, .slice b.s3 k3.length b.c3]] w fun e w' => e = .returned (.agg #[.int .i64 p0, .int .i64 p1, .int .i64 p2, .int .i64 p3, .int .i64 p4, .int .i64 r5, .int .i64 r6, .int .u32 (r7 : Int)]) ∧ Below w.heap.size w w') := fun w => C1.out w ⟨p0, p1, p2, p3, p4, r5, r6, r7, k1, k2, k3⟩ b
              obtain rfl : R = false := HR.out.symm.trans hR
              clear hR HR C1
              refine Lw.wp_region_quiet_below (by kernel_rfl) (by kernel_rfl) ?_
              repeat (first
                | go_big_quiet_skip
                | (go_big_quiet_want; go_big_quiet_op; go_big_quiet_on)
                | (go_big_quiet_want; go_big_quiet_op; apply Exists.intro; refine ⟨fun _ hb' => ?_, ?_⟩; (first
                  | exact Lw.val_rfl _
                  | (go_at_call_of 28 (Value.agg #[.int .i64 p0, .int .i64 p1, .int .i64 p2, .int .i64 p3, .int .i64 p4, .int .i64 p5, .int .i64 p6, .int .u32 (p7 : Int), .slice a.s1 l1.length a.c1, .slice a.s2 l2.length a.c2, .slice a.s3 l3.length a.c3]); exact Lw.calls_below hb' (HA.out _))
                  | (go_at_call 28; exact Lw.calls_below hb' (HA2.out _))
                  | (simp [go_sem, (HX.out.on hb').row.mat.1, (HX.out.on hb').row.mat.2.1, (HX.out.on hb').row.mat.2.2.1, (HX.out.on hb').row.mat.2.2.2.1, (HX.out.on hb').row.mat.2.2.2.2.1, (HX.out.on hb').row.mat.2.2.2.2.2.1, (HX.out.on hb').row.mat.2.2.2.2.2.2.1, (HX.out.on hb').row.mat.2.2.2.2.2.2.2.1, (HX.out.on hb').row.mat.2.2.2.2.2.2.2.2.1, (HX.out.on hb').row.mat.2.2.2.2.2.2.2.2.2.1, (HX.out.on hb').row.mat.2.2.2.2.2.2.2.2.2.2]; rfl)
                  | (simp [go_sem, (HY.out.on hb').row.mat.1, (HY.out.on hb').row.mat.2.1, (HY.out.on hb').row.mat.2.2.1, (HY.out.on hb').row.mat.2.2.2.1, (HY.out.on hb').row.mat.2.2.2.2.1, (HY.out.on hb').row.mat.2.2.2.2.2.1, (HY.out.on hb').row.mat.2.2.2.2.2.2.1, (HY.out.on hb').row.mat.2.2.2.2.2.2.2.1, (HY.out.on hb').row.mat.2.2.2.2.2.2.2.2.1, (HY.out.on hb').row.mat.2.2.2.2.2.2.2.2.2.1, (HY.out.on hb').row.mat.2.2.2.2.2.2.2.2.2.2]; rfl)); go_big_quiet_on))
              refine wpQuiet_nil ?_
              intro w5 hb5
              have HX5 := HX.out.on hb5
              clear HX HY
              go_wp2
              go_ret
              exact ⟨rfl, HX5.below⟩
          · have hb0 : (p4 == r4) = false := beq_eq_false_iff_ne.2 e4
            have hR : decide ((⟨p0, p1, p2, p3, p4, p5, p6, p7, l1, l2, l3⟩ : Mx.M) = ⟨p0, p1, p2, p3, r4, r5, r6, r7, k1, k2, k3⟩) = false := decide_eq_false (fun z => e4 (congrArg Mx.M.enable z))
            have HA : Hid (∀ w, Calls Tryd.prog 28 #[.agg #[.int .i64 p0, .int .i64 p1, .int .i64 p2, .int .i64 p3, .int .i64 p4, .int .i64 p5, .int .i64 p6, .int .u32 (p7 : Int), .slice a.s1 l1.length a.c1, .slice a.s2 l2.length a.c2, .slice a.s3 l3.length a.c3]] w fun e w' => e = .returned (.agg #[.int .i64 p0, .int .i64 p1, .int .i64 p2, .int .i64 p3, .int .i64 p4, .int .i64 p5, .int .i64 p6, .int .u32 (p7 : Int)]) ∧ Below w.heap.size w w') := fun w => C1.out w ⟨p0, p1, p2, p3, p4, p5, p6, p7, l1, l2, l3⟩ a
            have HA2 : Hid (∀ w, Calls Tryd.prog 28 #[.agg #[.int .i64 p0, .int .i64 p1, .int .i64 p2, .int .i64 p3, .int .i64 r4, .int .i64 r5, .int .i64 r6, .int .u32 (r7 : Int), .slice b.s1 k1.length b.c1, .slice b.s2 k2.length b.c2, .slice b.s3 k3.length b.c3]] w fun e w' => e = .returned (.agg #[.int .i64 p0, .int .i64 p1, .int .i64 p2, .int .i64 p3, .int .i64 r4, .int .i64 r5, .int .i64 r6, .int .u32 (r7 : Int)]) ∧ Below w.heap.size w w') := fun w => C1.out w ⟨p0, p1, p2, p3, r4, r5, r6, r7, k1, k2, k3⟩ b
            obtain rfl : R = false := HR.out.symm.trans hR
            clear hR HR C1
            refine Lw.wp_region_quiet_below (by kernel_rfl) (by kernel_rfl) ?_
            repeat (first
              | go_big_quiet_skip
              | (go_big_quiet_want; go_big_quiet_op; go_big_quiet_on)
              | (go_big_quiet_want; go_big_quiet_op; apply Exists.intro; refine ⟨fun _ hb' => ?_, ?_⟩; (first
                | exact Lw.val_rfl _
                | (go_at_call_of 28 (Value.agg #[.int .i64 p0, .int .i64 p1, .int .i64 p2, .int .i64 p3, .int .i64 p4, .int .i64 p5, .int .i64 p6, .int .u32 (p7 : Int), .slice a.s1 l1.length a.c1, .slice a.s2 l2.length a.c2, .slice a.s3 l3.length a.c3]); exact Lw.calls_below hb' (HA.out _))
                | (go_at_call 28; exact Lw.calls_below hb' (HA2.out _))
                | (simp [go_sem, (HX.out.on hb').row.mat.1, (HX.out.on hb').row.mat.2.1, (HX.out.on hb').row.mat.2.2.1, (HX.out.on hb').row.mat.2.2.2.1, (HX.out.on hb').row.mat.2.2.2.2.1, (HX.out.on hb').row.mat.2.2.2.2.2.1, (HX.out.on hb').row.mat.2.2.2.2.2.2.1, (HX.out.on hb').row.mat.2.2.2.2.2.2.2.1, (HX.out.on hb').row.mat.2.2.2.2.2.2.2.2.1, (HX.out.on hb').row.mat.2.2.2.2.2.2.2.2.2.1, (HX.out.on hb').row.mat.2.2.2.2.2.2.2.2.2.2]; rfl)
                | (simp [go_sem, (HY.out.on hb').row.mat.1, (HY.out.on hb').row.mat.2.1, (HY.out.on hb').row.mat.2.2.1, (HY.out.on hb').row.mat.2.2.2.1, (HY.out.on hb').row.mat.2.2.2.2.1, (HY.out.on hb').row.mat.2.2.2.2.2.1, (HY.out.on hb').row.mat.2.2.2.2.2.2.1, (HY.out.on hb').row.mat.2.2.2.2.2.2.2.1, (HY.out.on hb').row.mat.2.2.2.2.2.2.2.2.1, (HY.out.on hb').row.mat.2.2.2.2.2.2.2.2.2.1, (HY.out.on hb').row.mat.2.2.2.2.2.2.2.2.2.2]; rfl)); go_big_quiet_on))
            refine wpQuiet_nil ?_
            intro w5 hb5
            have HX5 := HX.out.on hb5
            clear HX HY
            go_wp2
            go_ret
            exact ⟨rfl, HX5.below⟩
        · have hb0 : (p3 == r3) = false := beq_eq_false_iff_ne.2 e3
          have hR : decide ((⟨p0, p1, p2, p3, p4, p5, p6, p7, l1, l2, l3⟩ : Mx.M) = ⟨p0, p1, p2, r3, r4, r5, r6, r7, k1, k2, k3⟩) = false := decide_eq_false (fun z => e3 (congrArg Mx.M.length z))
          have HA : Hid (∀ w, Calls Tryd.prog 28 #[.agg #[.int .i64 p0, .int .i64 p1, .int .i64 p2, .int .i64 p3, .int .i64 p4, .int .i64 p5, .int .i64 p6, .int .u32 (p7 : Int), .slice a.s1 l1.length a.c1, .slice a.s2 l2.length a.c2, .slice a.s3 l3.length a.c3]] w fun e w' => e = .returned (.agg #[.int .i64 p0, .int .i64 p1, .int .i64 p2, .int .i64 p3, .int .i64 p4, .int .i64 p5, .int .i64 p6, .int .u32 (p7 : Int)]) ∧ Below w.heap.size w w') := fun w => C1.out w ⟨p0, p1, p2, p3, p4, p5, p6, p7, l1, l2, l3⟩ a
          have HA2 : Hid (∀ w, Calls Tryd.prog 28 #[.agg #[.int .i64 p0, .int .i64 p1, .int .i64 p2, .int .i64 r3, .int .i64 r4, .int .i64 r5, .int .i64 r6, .int .u32 (r7 : Int), .slice b.s1 k1.length b.c1, .slice b.s2 k2.length b.c2, .slice b.s3 k3.length b.c3]] w fun e w' => e = .returned (.agg #[.int .i64 p0, .int .i64 p1, .int .i64 p2, .int .i64 r3, .int .i64 r4, .int .i64 r5, .int .i64 r6, .int .u32 (r7 : Int)]) ∧ Below w.heap.size w w') := fun w => C1.out w ⟨p0, p1, p2, r3, r4, r5, r6, r7, k1, k2, k3⟩ b
          obtain rfl : R = false := HR.out.symm.trans hR
          clear hR HR C1
          refine Lw.wp_region_quiet_below (by kernel_rfl) (by kernel_rfl) ?_
          repeat (first
            | go_big_quiet_skip
            | (go_big_quiet_want; go_big_quiet_op; go_big_quiet_on)
            | (go_big_quiet_want; go_big_quiet_op; apply Exists.intro; refine ⟨fun _ hb' => ?_, ?_⟩; (first
              | exact Lw.val_rfl _
              | (go_at_call_of 28 (Value.agg #[.int .i64 p0, .int .i64 p1, .int .i64 p2, .int .i64 p3, .int .i64 p4, .int .i64 p5, .int .i64 p6, .int .u32 (p7 : Int), .slice a.s1 l1.length a.c1, .slice a.s2 l2.length a.c2, .slice a.s3 l3.length a.c3]); exact Lw.calls_below hb' (HA.out _))
              | (go_at_call 28; exact Lw.calls_below hb' (HA2.out _))
              | (simp [go_sem, (HX.out.on hb').row.mat.1, (HX.out.on hb').row.mat.2.1, (HX.out.on hb').row.mat.2.2.1, (HX.out.on hb').row.mat.2.2.2.1, (HX.out.on hb').row.mat.2.2.2.2.1, (HX.out.on hb').row.mat.2.2.2.2.2.1, (HX.out.on hb').row.mat.2.2.2.2.2.2.1, (HX.out.on hb').row.mat.2.2.2.2.2.2.2.1, (HX.out.on hb').row.mat.2.2.2.2.2.2.2.2.1, (HX.out.on hb').row.mat.2.2.2.2.2.2.2.2.2.1, (HX.out.on hb').row.mat.2.2.2.2.2.2.2.2.2.2]; rfl)
              | (simp [go_sem, (HY.out.on hb').row.mat.1, (HY.out.on hb').row.mat.2.1, (HY.out.on hb').row.mat.2.2.1, (HY.out.on hb').row.mat.2.2.2.1, (HY.out.on hb').row.mat.2.2.2.2.1, (HY.out.on hb').row.mat.2.2.2.2.2.1, (HY.out.on hb').row.mat.2.2.2.2.2.2.1, (HY.out.on hb').row.mat.2.2.2.2.2.2.2.1, (HY.out.on hb').row.mat.2.2.2.2.2.2.2.2.1, (HY.out.on hb').row.mat.2.2.2.2.2.2.2.2.2.1, (HY.out.on hb').row.mat.2.2.2.2.2.2.2.2.2.2]; rfl)); go_big_quiet_on))
          refine wpQuiet_nil ?_
          intro w5 hb5
          have HX5 := HX.out.on hb5
          clear HX HY
          go_wp2
          go_ret
          exact ⟨rfl, HX5.below⟩
      · have hb0 : (p2 == r2) = false := beq_eq_false_iff_ne.2 e2
        have hR : decide ((⟨p0, p1, p2, p3, p4, p5, p6, p7, l1, l2, l3⟩ : Mx.M) = ⟨p0, p1, r2, r3, r4, r5, r6, r7, k1, k2, k3⟩) = false := decide_eq_false (fun z => e2 (congrArg Mx.M.cycles z))
        have HA : Hid (∀ w, Calls Tryd.prog 28 #[.agg #[.int .i64 p0, .int .i64 p1, .int .i64 p2, .int .i64 p3, .int .i64 p4, .int .i64 p5, .int .i64 p6, .int .u32 (p7 : Int), .slice a.s1 l1.length a.c1, .slice a.s2 l2.length a.c2, .slice a.s3 l3.length a.c3]] w fun e w' => e = .returned (.agg #[.int .i64 p0, .int .i64 p1, .int .i64 p2, .int .i64 p3, .int .i64 p4, .int .i64 p5, .int .i64 p6, .int .u32 (p7 : Int)]) ∧ Below w.heap.size w w') := fun w => C1.out w ⟨p0, p1, p2, p3, p4, p5, p6, p7, l1, l2, l3⟩ a
        have HA2 : Hid (∀ w, Calls Tryd.prog 28 #[.agg #[.int .i64 p0, .int .i64 p1, .int .i64 r2, .int .i64 r3, .int .i64 r4, .int .i64 r5, .int .i64 r6, .int .u32 (r7 : Int), .slice b.s1 k1.length b.c1, .slice b.s2 k2.length b.c2, .slice b.s3 k3.length b.c3]] w fun e w' => e = .returned (.agg #[.int .i64 p0, .int .i64 p1, .int .i64 r2, .int .i64 r3, .int .i64 r4, .int .i64 r5, .int .i64 r6, .int .u32 (r7 : Int)]) ∧ Below w.heap.size w w') := fun w => C1.out w ⟨p0, p1, r2, r3, r4, r5, r6, r7, k1, k2, k3⟩ b
        obtain rfl : R = false := HR.out.symm.trans hR
        clear hR HR C1
        refine Lw.wp_region_quiet_below (by kernel_rfl) (by kernel_rfl) ?_
        repeat (first
          | go_big_quiet_skip
          | (go_big_quiet_want; go_big_quiet_op; go_big_quiet_on)
          | (go_big_quiet_want; go_big_quiet_op; apply Exists.intro; refine ⟨fun _ hb' => ?_, ?_⟩; (first
            | exact Lw.val_rfl _
            | (go_at_call_of 28 (Value.agg #[.int .i64 p0, .int .i64 p1, .int .i64 p2, .int .i64 p3, .int .i64 p4, .int .i64 p5, .int .i64 p6, .int .u32 (p7 : Int), .slice a.s1 l1.length a.c1, .slice a.s2 l2.length a.c2, .slice a.s3 l3.length a.c3]); exact Lw.calls_below hb' (HA.out _))
            | (go_at_call 28; exact Lw.calls_below hb' (HA2.out _))
            | (simp [go_sem, (HX.out.on hb').row.mat.1, (HX.out.on hb').row.mat.2.1, (HX.out.on hb').row.mat.2.2.1, (HX.out.on hb').row.mat.2.2.2.1, (HX.out.on hb').row.mat.2.2.2.2.1, (HX.out.on hb').row.mat.2.2.2.2.2.1, (HX.out.on hb').row.mat.2.2.2.2.2.2.1, (HX.out.on hb').row.mat.2.2.2.2.2.2.2.1, (HX.out.on hb').row.mat.2.2.2.2.2.2.2.2.1, (HX.out.on hb').row.mat.2.2.2.2.2.2.2.2.2.1, (HX.out.on hb').row.mat.2.2.2.2.2.2.2.2.2.2]; rfl)
            | (simp [go_sem, (HY.out.on hb').row.mat.1, (HY.out.on hb').row.mat.2.1, (HY.out.on hb').row.mat.2.2.1, (HY.out.on hb').row.mat.2.2.2.1, (HY.out.on hb').row.mat.2.2.2.2.1, (HY.out.on hb').row.mat.2.2.2.2.2.1, (HY.out.on hb').row.mat.2.2.2.2.2.2.1, (HY.out.on hb').row.mat.2.2.2.2.2.2.2.1, (HY.out.on hb').row.mat.2.2.2.2.2.2.2.2.1, (HY.out.on hb').row.mat.2.2.2.2.2.2.2.2.2.1, (HY.out.on hb').row.mat.2.2.2.2.2.2.2.2.2.2]; rfl)); go_big_quiet_on))
        refine wpQuiet_nil ?_
        intro w5 hb5
        have HX5 := HX.out.on hb5
        clear HX HY
        go_wp2
        go_ret
        exact ⟨rfl, HX5.below⟩
    · have hb0 : (p1 == r1) = false := beq_eq_false_iff_ne.2 e1
      have hR : decide ((⟨p0, p1, p2, p3, p4, p5, p6, p7, l1, l2, l3⟩ : Mx.M) = ⟨p0, r1, r2, r3, r4, r5, r6, r7, k1, k2, k3⟩) = false := decide_eq_false (fun z => e1 (congrArg Mx.M.nodes z))
      have HA : Hid (∀ w, Calls Tryd.prog 28 #[.agg #[.int .i64 p0, .int .i64 p1, .int .i64 p2, .int .i64 p3, .int .i64 p4, .int .i64 p5, .int .i64 p6, .int .u32 (p7 : Int), .slice a.s1 l1.length a.c1, .slice a.s2 l2.length a.c2, .slice a.s3 l3.length a.c3]] w fun e w' => e = .returned (.agg #[.int .i64 p0, .int .i64 p1, .int .i64 p2, .int .i64 p3, .int .i64 p4, .int .i64 p5, .int .i64 p6, .int .u32 (p7 : Int)]) ∧ Below w.heap.size w w') := fun w => C1.out w ⟨p0, p1, p2, p3, p4, p5, p6, p7, l1, l2, l3⟩ a
      have HA2 : Hid (∀ w, Calls Tryd.prog 28 #[.agg #[.int .i64 p0, .int .i64 r1, .int .i64 r2, .int .i64 r3, .int .i64 r4, .int .i64 r5, .int .i64 r6, .int .u32 (r7 : Int), .slice b.s1 k1.length b.c1, .slice b.s2 k2.length b.c2, .slice b.s3 k3.length b.c3]] w fun e w' => e = .returned (.agg #[.int .i64 p0, .int .i64 r1, .int .i64 r2, .int .i64 r3, .int .i64 r4, .int .i64 r5, .int .i64 r6, .int .u32 (r7 : Int)]) ∧ Below w.heap.size w w') := fun w => C1.out w ⟨p0, r1, r2, r3, r4, r5, r6, r7, k1, k2, k3⟩ b
      obtain rfl : R = false := HR.out.symm.trans hR
      clear hR HR C1
      refine Lw.wp_region_quiet_below (by kernel_rfl) (by kernel_rfl) ?_
      repeat (first
        | go_big_quiet_skip
        | (go_big_quiet_want; go_big_quiet_op; go_big_quiet_on)
        | (go_big_quiet_want; go_big_quiet_op; apply Exists.intro; refine ⟨fun _ hb' => ?_, ?_⟩; (first
          | exact Lw.val_rfl _
          | (go_at_call_of 28 (Value.agg #[.int .i64 p0, .int .i64 p1, .int .i64 p2, .int .i64 p3, .int .i64 p4, .int .i64 p5, .int .i64 p6, .int .u32 (p7 : Int), .slice a.s1 l1.length a.c1, .slice a.s2 l2.length a.c2, .slice a.s3 l3.length a.c3]); exact Lw.calls_below hb' (HA.out _))
          | (go_at_call 28; exact Lw.calls_below hb' (HA2.out _))
          | (simp [go_sem, (HX.out.on hb').row.mat.1, (HX.out.on hb').row.mat.2.1, (HX.out.on hb').row.mat.2.2.1, (HX.out.on hb').row.mat.2.2.2.1, (HX.out.on hb').row.mat.2.2.2.2.1, (HX.out.on hb').row.mat.2.2.2.2.2.1, (HX.out.on hb').row.mat.2.2.2.2.2.2.1, (HX.out.on hb').row.mat.2.2.2.2.2.2.2.1, (HX.out.on hb').row.mat.2.2.2.2.2.2.2.2.1, (HX.out.on hb').row.mat.2.2.2.2.2.2.2.2.2.1, (HX.out.on hb').row.mat.2.2.2.2.2.2.2.2.2.2]; rfl)
          | (simp [go_sem, (HY.out.on hb').row.mat.1, (HY.out.on hb').row.mat.2.1, (HY.out.on hb').row.mat.2.2.1, (HY.out.on hb').row.mat.2.2.2.1, (HY.out.on hb').row.mat.2.2.2.2.1, (HY.out.on hb').row.mat.2.2.2.2.2.1, (HY.out.on hb').row.mat.2.2.2.2.2.2.1, (HY.out.on hb').row.mat.2.2.2.2.2.2.2.1, (HY.out.on hb').row.mat.2.2.2.2.2.2.2.2.1, (HY.out.on hb').row.mat.2.2.2.2.2.2.2.2.2.1, (HY.out.on hb').row.mat.2.2.2.2.2.2.2.2.2.2]; rfl)); go_big_quiet_on))
      refine wpQuiet_nil ?_
      intro w5 hb5
      have HX5 := HX.out.on hb5
      clear HX HY
      go_wp2
      go_ret
      exact ⟨rfl, HX5.below⟩
  · have hb0 : (p0 == r0) = false := beq_eq_false_iff_ne.2 e0
    have hR : decide ((⟨p0, p1, p2, p3, p4, p5, p6, p7, l1, l2, l3⟩ : Mx.M) = ⟨r0, r1, r2, r3, r4, r5, r6, r7, k1, k2, k3⟩) = false := decide_eq_false (fun z => e0 (congrArg Mx.M.level z))
    have HA : Hid (∀ w, Calls Tryd.prog 28 #[.agg #[.int .i64 p0, .int .i64 p1, .int .i64 p2, .int .i64 p3, .int .i64 p4, .int .i64 p5, .int .i64 p6, .int .u32 (p7 : Int), .slice a.s1 l1.length a.c1, .slice a.s2 l2.length a.c2, .slice a.s3 l3.length a.c3]] w fun e w' => e = .returned (.agg #[.int .i64 p0, .int .i64 p1, .int .i64 p2, .int .i64 p3, .int .i64 p4, .int .i64 p5, .int .i64 p6, .int .u32 (p7 : Int)]) ∧ Below w.heap.size w w') := fun w => C1.out w ⟨p0, p1, p2, p3, p4, p5, p6, p7, l1, l2, l3⟩ a
    have HA2 : Hid (∀ w, Calls Tryd.prog 28 #[.agg #[.int .i64 r0, .int .i64 r1, .int .i64 r2, .int .i64 r3, .int .i64 r4, .int .i64 r5, .int .i64 r6, .int .u32 (r7 : Int), .slice b.s1 k1.length b.c1, .slice b.s2 k2.length b.c2, .slice b.s3 k3.length b.c3]] w fun e w' => e = .returned (.agg #[.int .i64 r0, .int .i64 r1, .int .i64 r2, .int .i64 r3, .int .i64 r4, .int .i64 r5, .int .i64 r6, .int .u32 (r7 : Int)]) ∧ Below w.heap.size w w') := fun w => C1.out w ⟨r0, r1, r2, r3, r4, r5, r6, r7, k1, k2, k3⟩ b
    obtain rfl : R = false := HR.out.symm.trans hR
    clear hR HR C1
    refine Lw.wp_region_quiet_below (by kernel_rfl) (by kernel_rfl) ?_
    repeat (first
      | go_big_quiet_skip
      | (go_big_quiet_want; go_big_quiet_op; go_big_quiet_on)
      | (go_big_quiet_want; go_big_quiet_op; apply Exists.intro; refine ⟨fun _ hb' => ?_, ?_⟩; (first
        | exact Lw.val_rfl _
        | (go_at_call_of 28 (Value.agg #[.int .i64 p0, .int .i64 p1, .int .i64 p2, .int .i64 p3, .int .i64 p4, .int .i64 p5, .int .i64 p6, .int .u32 (p7 : Int), .slice a.s1 l1.length a.c1, .slice a.s2 l2.length a.c2, .slice a.s3 l3.length a.c3]); exact Lw.calls_below hb' (HA.out _))
        | (go_at_call 28; exact Lw.calls_below hb' (HA2.out _))
        | (simp [go_sem, (HX.out.on hb').row.mat.1, (HX.out.on hb').row.mat.2.1, (HX.out.on hb').row.mat.2.2.1, (HX.out.on hb').row.mat.2.2.2.1, (HX.out.on hb').row.mat.2.2.2.2.1, (HX.out.on hb').row.mat.2.2.2.2.2.1, (HX.out.on hb').row.mat.2.2.2.2.2.2.1, (HX.out.on hb').row.mat.2.2.2.2.2.2.2.1, (HX.out.on hb').row.mat.2.2.2.2.2.2.2.2.1, (HX.out.on hb').row.mat.2.2.2.2.2.2.2.2.2.1, (HX.out.on hb').row.mat.2.2.2.2.2.2.2.2.2.2]; rfl)
        | (simp [go_sem, (HY.out.on hb').row.mat.1, (HY.out.on hb').row.mat.2.1, (HY.out.on hb').row.mat.2.2.1, (HY.out.on hb').row.mat.2.2.2.1, (HY.out.on hb').row.mat.2.2.2.2.1, (HY.out.on hb').row.mat.2.2.2.2.2.1, (HY.out.on hb').row.mat.2.2.2.2.2.2.1, (HY.out.on hb').row.mat.2.2.2.2.2.2.2.1, (HY.out.on hb').row.mat.2.2.2.2.2.2.2.2.1, (HY.out.on hb').row.mat.2.2.2.2.2.2.2.2.2.1, (HY.out.on hb').row.mat.2.2.2.2.2.2.2.2.2.2]; rfl)); go_big_quiet_on))
    refine wpQuiet_nil ?_
    intro w5 hb5
    have HX5 := HX.out.on hb5
    clear HX HY
    go_wp2
    go_ret
    exact ⟨rfl, HX5.below⟩
end Go.Proofs.YthknkolnalobjaaDoor
