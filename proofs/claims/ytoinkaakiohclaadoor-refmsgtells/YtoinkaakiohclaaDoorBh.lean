/- Package matrix, over the landed code: Comes, Rank, Frame, Find, Is, Same. -/
import Derived.Test.YtoinkaakiohclaaDoorBg
import Derived.Test.YtoinkaakiohclaaDoorB1
import Derived.Deep.CutBlock
namespace Go.Proofs.YtoinkaakiohclaaDoor
open Go.RowKit Go.WideShapes
set_option linter.unusedVariables false
set_option maxRecDepth 100000 in
set_option maxHeartbeats 4000000 in
theorem mk_frame (w : World) (m : Mx.M) (a : Ma) (msg : Int) (d : ByteArray) (hm : MIn w m a) (hS : Mx.Small m) : Calls Tryd.prog 15 #[mV m a, .int .i64 msg, .string d] w fun e w' => e = .returned (fVal (Mx.fid m msg d.size) d) ∧ Below w.heap.size w w' := by
  have HX0 : Hid (Bx w (w.alloc (.cells (mCs m a) 27)) w.heap.size m a) := Bx.mk' hm
  have HX1 : Hid (∀ o, Bx w ((w.alloc (.cells (mCs m a) 27)).alloc o) w.heap.size m a) := fun o => HX0.out.on ((Below.refl _ _).alloc (Nat.le_refl _) _)
  have hl := hS.b
  have x9 : ∀ o, ((w.alloc (.cells (mCs m a) 27)).alloc o).cell? ⟨w.heap.size, 9, none⟩ = some (.slice a.s2 m.messages.length a.c2) := fun o => (HX1.out o).row.mat.2.2.2.2.2.2.2.2.2.1
  have HW : Hid (∀ (w : World) (n lo hi : Int) (b : Bool), Mx.within n lo hi = b → Calls Tryd.prog 26 #[.int .i64 n, .int .i64 lo, .int .i64 hi] w fun e w' => e = .returned (.bool b) ∧ w' = w) := fun w n lo hi b h => by subst h; exact mk_within w n lo hi
  show Calls _ _ #[.agg (mCs m a), _, _] _ _
  cases hw : Mx.within msg 0 ((m.messages.length : Int) - 1)
  · have hf : Mx.fid m msg d.size = none := by
      unfold Mx.fid
      split
      · rename_i h
        have : m.messages.length ≤ msg.toNat := by
          unfold Mx.within at hw
          simp only [Bool.and_eq_false_iff, decide_eq_false_iff_not] at hw
          omega
        rw [List.getElem?_eq_none this]; rfl
      · rfl
    rw [hf]
    generalize mCs m a = cs at HX1 x9 ⊢
    clear hm hS HX0
    generalize m.messages.length = n at hl x9 hw
    go_enter Tryd.func15, Tryd.ntmps15
    go_wp2_with fail
    refine (HW.out _ _ _ _ _ hw).mono ?_
    rintro e w1 ⟨rfl, rfl⟩
    go_wp2
    exact bodyPost_ret (v := fVal none d) (by simp [results, Tryd.results15, go_sem, fVal]; rfl) rfl ⟨rfl, ((Below.refl _ _).alloc (Nat.le_refl _) _).alloc (by simp) _⟩
  · have hb : 0 ≤ msg ∧ msg < (m.messages.length : Int) := by
      unfold Mx.within at hw
      simp only [Bool.and_eq_true, decide_eq_true_eq] at hw
      omega
    obtain ⟨k, rfl⟩ := Int.eq_ofNat_of_zero_le hb.1
    have h1 : k < m.messages.length := by omega
    clear hb
    obtain ⟨x, hx⟩ : ∃ x, m.messages[k]? = some x := ⟨_, List.getElem?_eq_getElem h1⟩
    have HC : Hid (∀ o, ∃ g o', a.s2 = some ⟨g, o', none⟩ ∧ ((w.alloc (.cells (mCs m a) 27)).alloc o).cell? ⟨g, o' + k * 3, none⟩ = some (.int .u32 (x.id : Int))) := fun o => by
      obtain ⟨g, o', hs, _, hc, _⟩ := (HX1.out o).mem.message hx
      exact ⟨g, o', hs, hc⟩
    by_cases h2 : 8 < d.size
    · have hf : Mx.fid m (k : Int) d.size = none := if_neg (fun h => by omega)
      rw [hf]
      generalize mCs m a = cs at HX1 x9 ⊢
      clear hm hS HX0 HC hx
      generalize m.messages.length = n at hl x9 h1 hw
      go_enter Tryd.func15, Tryd.ntmps15
      go_wp2_with fail
      refine (HW.out _ _ _ _ _ hw).mono ?_
      rintro e w1 ⟨rfl, rfl⟩
      go_wp2
      exact bodyPost_ret (v := fVal none d) (by simp [results, Tryd.results15, go_sem, fVal]; rfl) rfl ⟨rfl, ((Below.refl _ _).alloc (Nat.le_refl _) _).alloc (by simp) _⟩
    · have hf : Mx.fid m (k : Int) d.size = some x.id := by unfold Mx.fid; rw [if_pos ⟨by omega, by omega⟩, Int.toNat_natCast, hx]; rfl
      rw [hf]
      obtain ⟨g, o', hs, _⟩ := HC.out (.cells #[] 0)
      have c0 : ∀ o, ((w.alloc (.cells (mCs m a) 27)).alloc o).cell? ⟨g, o' + k * 3, none⟩ = some (.int .u32 (x.id : Int)) := fun o => by
        obtain ⟨g', o'', hs', hc⟩ := HC.out o
        rw [hs] at hs'
        injection hs' with hs'
        injection hs' with e1 e2
        subst e1 e2
        exact hc
      rw [hs] at x9
      generalize mCs m a = cs at HX1 x9 c0 ⊢
      clear hm hS HX0 HC hx
      generalize m.messages.length = n at hl x9 h1 hw
      go_enter Tryd.func15, Tryd.ntmps15
      go_wp2_with fail
      refine (HW.out _ _ _ _ _ hw).mono ?_
      rintro e w1 ⟨rfl, rfl⟩
      go_wp2
      exact bodyPost_ret (v := fVal (some x.id) d) (by simp [results, Tryd.results15, go_sem, fVal]) rfl ⟨rfl, ((Below.refl _ _).alloc (Nat.le_refl _) _).alloc (by simp) _⟩
set_option maxRecDepth 100000 in
set_option maxHeartbeats 4000000 in
theorem mk_find (w : World) (m : Mx.M) (a : Ma) (ext rtr : Bool) (id : Nat) (d : ByteArray) (hm : MIn w m a) (hS : Mx.Small m) : Calls Tryd.prog 14 #[mV m a, .agg #[.bool ext, .int .u32 (id : Int), .bool rtr, .string d]] w fun e w' => e = .returned (.int .i64 (Mx.find m ext rtr id)) ∧ Below w.heap.size w w' := by
  have HX0 : Hid (Bx w (w.alloc (.cells (mCs m a) 27)) w.heap.size m a) := Bx.mk' hm
  have HF0 : Hid (RowT 30 ((w.alloc (.cells (mCs m a) 27)).alloc (.cells #[.bool ext, .int .u32 (id : Int), .bool rtr, .string d] 30)) (w.alloc (.cells (mCs m a) 27)).heap.size #[.bool ext, .int .u32 (id : Int), .bool rtr, .string d]) := RowT.new _ _ _
  have HX : Hid (Bx w ((w.alloc (.cells (mCs m a) 27)).alloc (.cells #[.bool ext, .int .u32 (id : Int), .bool rtr, .string d] 30)) w.heap.size m a) := HX0.out.on ((Below.refl _ _).alloc (Nat.le_refl _) _)
  have hl := hS.b
  have hsz : (w.alloc (.cells (mCs m a) 27)).heap.size = w.heap.size + 1 := by simp
  rw [hsz] at HF0
  show Calls _ _ #[.agg (mCs m a), _] _ _
  generalize mCs m a = cs at HX HF0 ⊢
  clear hm hS HX0 hsz
  by_cases hways : ext = true ∨ rtr = true
  · have hR : Mx.find m ext rtr id = -1 := Mx.firstAt_none (fun j y _ => by rcases hways with h | h <;> simp [h])
    rw [hR]
    have f0 := HF0.out.c 0 _ rfl
    have f2 := HF0.out.c 2 _ rfl
    have hw2 : ext = true ∨ (ext = false ∧ rtr = true) := by cases ext <;> simp_all
    rcases hw2 with rfl | ⟨rfl, rfl⟩
    all_goals
      go_enter Tryd.func14, Tryd.ntmps14
      go_wp2
      go_ret
      exact ⟨rfl, HX.out.below⟩
  · obtain ⟨rfl, rfl⟩ : ext = false ∧ rtr = false := by cases ext <;> cases rtr <;> simp_all
    clear hways
    have HE1 : Hid (∀ (k : Nat) x, m.messages[k]? = some x → (∀ (j : Nat) y, j < k → m.messages[j]? = some y → (y.id == id) = false) → (x.id == id) = true → Mx.find m false false id = (k : Int)) := fun k x hx hb hw => Mx.firstAt_some (p := fun x : Mx.Msg => !false && !false && x.id == id) hx (fun j y hj hy => by simpa using hb j y hj hy) (by simpa using hw)
    have HE2 : Hid ((∀ (j : Nat) y, m.messages[j]? = some y → (y.id == id) = false) → Mx.find m false false id = -1) := fun hb => Mx.firstAt_none (fun j y hy => by simpa using hb j y hy)
    generalize Mx.find m false false id = R at HE1 HE2 ⊢
    have HL : Hid (∀ k, k < m.messages.length → ∃ x, m.messages[k]? = some x) := fun k hk => ⟨_, List.getElem?_eq_getElem hk⟩
    have HL2 : Hid (∀ (j : Nat) y, m.messages[j]? = some y → j < m.messages.length) := fun j y h => (List.getElem?_eq_some_iff.1 h).1
    obtain ⟨n, hn⟩ : ∃ n, m.messages.length = n := ⟨_, rfl⟩
    have HN : Hid (m.messages.length = n) := hn
    have x9 := HX.out.row.mat.2.2.2.2.2.2.2.2.2.1
    rw [hn] at hl HL HL2 x9
    have f0 := HF0.out.c 0 _ rfl
    have f2 := HF0.out.c 2 _ rfl
    clear hn
    go_enter Tryd.func14, Tryd.ntmps14
    go_wp2_with fail
    clear f0 f2 x9
    generalize (w.alloc (.cells cs 27)).alloc (.cells #[.bool false, .int .u32 (id : Int), .bool false, .string d] 30) = wB at HX HF0 ⊢
    go_loopw [16] (fun i wr => ∃ k : Nat, k ≤ n ∧ i = .int .i64 k ∧ Hid (Bx w wr w.heap.size m a) ∧ Hid (RowT 30 wr (w.heap.size + 1) #[.bool false, .int .u32 (id : Int), .bool false, .string d]) ∧ Hid (∀ (j : Nat) y, j < k → m.messages[j]? = some y → (y.id == id) = false)) (fun i _ => n - (intOf i).toNat)
    case atStart => exact ⟨0, Nat.zero_le _, rfl, HX, HF0, fun j y h => absurd h (Nat.not_lt_zero _)⟩
    case round =>
      clear HX HF0
      obtain ⟨k, hk, rfl, HX, HR, HF⟩ := hrel
      by_cases hlt : k < n
      · obtain ⟨x, hx⟩ := HL.out k hlt
        obtain ⟨g, o, hs, _, q0, q1, q2⟩ := HX.out.mem.message hx
        have HX1 : Hid (m.messages[k]? = some x) := hx
        have al : ∀ ob : Obj, Below wr.heap.size wr (wr.alloc ob) := fun ob => (Below.refl _ _).alloc (Nat.le_refl _) _
        have f1 : ∀ ob : Obj, (wr.alloc ob).cell? ⟨w.heap.size + 1, 1, none⟩ = some (.int .u32 (id : Int)) := fun ob => (HR.out.on (al ob)).c 1 _ rfl
        have HX5 : Hid (∀ ob : Obj, Bx w (wr.alloc ob) w.heap.size m a) := fun ob => HX.out.on (al ob)
        have HR5 : Hid (∀ ob : Obj, RowT 30 (wr.alloc ob) (w.heap.size + 1) #[.bool false, .int .u32 (id : Int), .bool false, .string d]) := fun ob => HR.out.on (al ob)
        rw [hs]
        clear hs hx al HX HR HL HL2 HN
        cases hw : (x.id == id)
        · have HF2 : Hid (∀ (j : Nat) y, j < k + 1 → m.messages[j]? = some y → (y.id == id) = false) := Mx.upto_succ (p := fun y : Mx.Msg => y.id == id) HX1.out HF.out hw
          have hne : ((x.id : Int) == (id : Int)) = false := beq_eq_false_iff_ne.2 (fun e => by have := beq_eq_false_iff_ne.1 hw; omega)
          clear hw HE1 HE2 HF HX1
          go_wp2
          first
            | exact ⟨⟨k + 1, by omega, by simp, HX5.out _, HR5.out _, HF2⟩, by simp [intOf]; omega⟩
            | (go_roundw; (case rel => exact ⟨k + 1, by omega, rfl, HX5.out _, HR5.out _, HF2⟩); (case measure => simp only [intOf]; omega))
        · have hR := HE1.out k x HX1.out HF.out hw
          obtain he : x.id = id := beq_iff_eq.1 hw
          subst he
          subst hR
          clear HE1 HE2 HF hw HX1
          go_wp2
          go_ret
          exact ⟨rfl, (HX5.out _).below⟩
      · have hR := HE2.out (fun j y hy => HF.out j y (by have := HL2.out j y hy; omega) hy)
        subst hR
        clear HE1 HE2 HL HL2
        go_wp2
        go_ret
        exact ⟨rfl, HX.out.below⟩
set_option maxRecDepth 100000 in
set_option maxHeartbeats 4000000 in
theorem mk_headOf (w : World) (m : Mx.M) (a : Ma) : Calls Tryd.prog 42 #[.agg (mCs m a)] w fun e w' => e = .returned (.agg (Bk.hCs m)) ∧ Below w.heap.size w w' := by
  have HR : ∀ o, RowT 27 ((w.alloc (.cells (mCs m a) 27)).alloc o) w.heap.size (mCs m a) := fun o => (RowT.new 27 w (mCs m a)).on ((Below.refl _ _).alloc (Nat.le_refl _) _)
  have x0 := fun o => (HR o).mat.1
  have x1 := fun o => (HR o).mat.2.1
  have x2 := fun o => (HR o).mat.2.2.1
  have x3 := fun o => (HR o).mat.2.2.2.1
  have x4 := fun o => (HR o).mat.2.2.2.2.1
  have x5 := fun o => (HR o).mat.2.2.2.2.2.1
  have x6 := fun o => (HR o).mat.2.2.2.2.2.2.1
  have x7 := fun o => (HR o).mat.2.2.2.2.2.2.2.1
  clear HR
  generalize mCs m a = cs at *
  go_enter Tryd.func42, Tryd.ntmps42
  go_wp2
  exact bodyPost_ret (v := .agg (Bk.hCs m)) (by simp [results, Tryd.results42, go_sem, Bk.hCs]) rfl ⟨rfl, ((Below.refl _ _).alloc (Nat.le_refl _) _).alloc (by simp) _⟩
/-- A matrix in a block, its head in another. -/
structure Bk.Hb (W w : World) (q : Nat) (m : Mx.M) (a : Ma) : Prop where
  bx : Bx W w W.heap.size m a
  hd : RowT 75 w q (Bk.hCs m)
theorem Bk.Hb.on {W w w' : World} {q : Nat} {m : Mx.M} {a : Ma} (h : Bk.Hb W w q m a) (hb : Below w.heap.size w w') : Bk.Hb W w' q m a := ⟨h.bx.on hb, h.hd.on hb⟩
set_option maxRecDepth 100000 in
set_option maxHeartbeats 4000000 in
theorem mk_is (W : World) (hT : Tab W) (m : Mx.M) (a : Ma) (hm : MIn W m a) (hS : Mx.Small m) : Calls Tryd.prog 30 #[mV m a] W fun e w' => e = .returned (.bool (Mx.is m)) ∧ Below W.heap.size W w' := by
  have HX : Hid (Bx W (W.alloc (.cells (mCs m a) 27)) W.heap.size m a) := Bx.mk' hm
  have HQ : Hid (∀ w, Below W.heap.size W w → Tab w) := fun w hb => hT.below hb
  have C1 : Hid (∀ w, Calls Tryd.prog 42 #[.agg (mCs m a)] w fun e w' => e = .returned (.agg (Bk.hCs m)) ∧ Below w.heap.size w w') := fun w => mk_headOf w m a
  have C2 : Hid (∀ w b, Below W.heap.size W w → Bk.hd m = b → Calls Tryd.prog 43 #[.agg (Bk.hCs m)] w fun e w' => e = .returned (.bool b) ∧ Below w.heap.size w w') := fun w b hb e => by subst e; exact mk_head w (HQ.out w hb) m
  have C3 : Hid (∀ w b, Bx W w W.heap.size m a → (decide (m.masters.length ≤ 4) && m.masters.all (fun x => Mx.within x 0 99)) = b → Calls Tryd.prog 44 #[.slice a.s1 m.masters.length a.c1, .int .i64 4, .func (.func 45) #[] #[]] w fun e w' => e = .returned (.bool b) ∧ Below w.heap.size w w') := fun w b hb e => by subst e; exact mk_all1 w (HQ.out w hb.below) m.masters a.s1 a.c1 hb.mem.l1 hS.a
  have C4 : Hid (∀ w b, Bx W w W.heap.size m a → (decide (m.messages.length ≤ 12) && m.messages.all Mx.msgOk) = b → Calls Tryd.prog 46 #[.slice a.s2 m.messages.length a.c2, .int .i64 12, .func (.func 47) #[] #[]] w fun e w' => e = .returned (.bool b) ∧ Below w.heap.size w w') := fun w b hb e => by subst e; exact mk_all2 w (HQ.out w hb.below) m.messages a.s2 a.c2 hb.mem.l2 hS.b
  have C5 : Hid (∀ w b, Bx W w W.heap.size m a → (decide (m.windows.length ≤ 16) && m.windows.all (Bk.win m)) = b → Calls Tryd.prog 48 #[.slice a.s3 m.windows.length a.c3, .int .i64 16, .func (.func 49) #[.agg (Bk.hCs m)] #[]] w fun e w' => e = .returned (.bool b) ∧ Below w.heap.size w w') := fun w b hb e => by subst e; exact mk_all3 w (HQ.out w hb.below) m m.windows a.s3 a.c3 hb.mem.l3 hS.c
  rw [Bk.is_eq]
  clear hm hS hT HQ
  generalize m.masters.all (fun x => Mx.within x 0 99) = r1 at C3 ⊢
  generalize m.messages.all Mx.msgOk = r2 at C4 ⊢
  generalize m.windows.all (Bk.win m) = r3 at C5 ⊢
  show Calls _ _ #[.agg (mCs m a)] _ _
  generalize hR : (Bk.hd m && decide (0 < m.masters.length) && (decide (m.masters.length ≤ 4) && r1) && (decide (m.messages.length ≤ 12) && r2) && (decide (m.windows.length ≤ 16) && r3)) = R
  have HR : Hid ((Bk.hd m && decide (0 < m.masters.length) && (decide (m.masters.length ≤ 4) && r1) && (decide (m.messages.length ≤ 12) && r2) && (decide (m.windows.length ≤ 16) && r3)) = R) := hR
  clear hR
  have y := HX.out.row.mat
  obtain ⟨x0, x1, x2, x3, x4, x5, x6, x7, x8, x9, x10⟩ := y
  go_enter Tryd.func30, Tryd.ntmps30
  go_wp2_with fail
  refine (C1.out _).mono ?_
  rintro e w1 ⟨rfl, hb⟩
  clear x0 x1 x2 x3 x4 x5 x6 x7 x8 x9 x10
  replace HX : Hid (Bx W w1 W.heap.size m a) := HX.out.on hb
  clear hb C1
  have HH : Hid (Bk.Hb W (w1.alloc (.cells #[.int .i64 m.level, .int .i64 m.nodes, .int .i64 m.cycles, .int .i64 m.length, .int .i64 m.enable, .int .i64 m.unit, .int .i64 m.init, .int .u32 (m.ref : Int)] 75)) w1.heap.size m a) := ⟨HX.out.on ((Below.refl _ _).alloc (Nat.le_refl _) _), RowT.new _ _ _⟩
  clear HX
  dsimp only [Bk.hCs]
  go_upto_region 2 with fail
  generalize w1.alloc (.cells #[.int .i64 m.level, .int .i64 m.nodes, .int .i64 m.cycles, .int .i64 m.length, .int .i64 m.enable, .int .i64 m.unit, .int .i64 m.init, .int .u32 (m.ref : Int)] 75) = v1 at HH ⊢
  generalize w1.heap.size = q at HH ⊢
  obtain ⟨h0, h1, h2, h3, h4, h5, h6, h7⟩ := Bk.hCells HH.out.hd
  cases b1 : Bk.hd m
  · skip
    obtain rfl : R = false := by
      have h := HR.out
      rw [b1] at h
      exact h.symm
    clear HR
    go_wp2_with fail
    refine (C2.out _ _ HH.out.bx.below b1).mono ?_
    rintro e w2 ⟨rfl, hb⟩
    replace HH : Hid (Bk.Hb W w2 q m a) := HH.out.on hb
    clear hb h0 h1 h2 h3 h4 h5 h6 h7
    go_wp2
    go_ret
    exact ⟨rfl, HH.out.bx.below⟩
  · skip
    go_wp2_with fail
    refine (C2.out _ _ HH.out.bx.below b1).mono ?_
    rintro e w2 ⟨rfl, hb⟩
    replace HH : Hid (Bk.Hb W w2 q m a) := HH.out.on hb
    clear hb h0 h1 h2 h3 h4 h5 h6 h7
    obtain ⟨_, _, _, _, _, _, _, _, x8, _, _⟩ := HH.out.bx.row.mat
    by_cases g0 : 0 < m.masters.length
    · have g1 : (0 : Int) < (m.masters.length : Int) := by omega
      have b0 : decide (0 < m.masters.length) = true := decide_eq_true g0
      cases b2 : (decide (m.masters.length ≤ 4) && r1)
      · skip
        obtain rfl : R = false := by
          have h := HR.out
          rw [b1, b0, b2] at h
          exact h.symm
        clear HR
        go_wp2_with fail
        refine (C3.out _ _ HH.out.bx b2).mono ?_
        rintro e w3 ⟨rfl, hb⟩
        replace HH : Hid (Bk.Hb W w3 q m a) := HH.out.on hb
        clear hb x8
        go_wp2
        go_ret
        exact ⟨rfl, HH.out.bx.below⟩
      · skip
        go_wp2_with fail
        refine (C3.out _ _ HH.out.bx b2).mono ?_
        rintro e w3 ⟨rfl, hb⟩
        replace HH : Hid (Bk.Hb W w3 q m a) := HH.out.on hb
        clear hb x8
        obtain ⟨_, _, _, _, _, _, _, _, _, x9, _⟩ := HH.out.bx.row.mat
        cases b3 : (decide (m.messages.length ≤ 12) && r2)
        · skip
          obtain rfl : R = false := by
            have h := HR.out
            rw [b1, b0, b2, b3] at h
            exact h.symm
          clear HR
          go_wp2_with fail
          refine (C4.out _ _ HH.out.bx b3).mono ?_
          rintro e w4 ⟨rfl, hb⟩
          replace HH : Hid (Bk.Hb W w4 q m a) := HH.out.on hb
          clear hb x9
          go_wp2
          go_ret
          exact ⟨rfl, HH.out.bx.below⟩
        · skip
          go_wp2_with fail
          refine (C4.out _ _ HH.out.bx b3).mono ?_
          rintro e w4 ⟨rfl, hb⟩
          replace HH : Hid (Bk.Hb W w4 q m a) := HH.out.on hb
          clear hb x9
          obtain ⟨h0, h1, h2, h3, h4, h5, h6, h7⟩ := Bk.hCells HH.out.hd
          obtain ⟨_, _, _, _, _, _, _, _, _, _, x10⟩ := HH.out.bx.row.mat
          cases b4 : (decide (m.windows.length ≤ 16) && r3)
          · skip
            obtain rfl : R = false := by
              have h := HR.out
              rw [b1, b0, b2, b3, b4] at h
              exact h.symm
            clear HR
            go_wp2_with fail
            refine (C5.out _ _ HH.out.bx b4).mono ?_
            rintro e w5 ⟨rfl, hb⟩
            replace HH : Hid (Bk.Hb W w5 q m a) := HH.out.on hb
            clear hb x10 h0 h1 h2 h3 h4 h5 h6 h7
            go_wp2
            go_ret
            exact ⟨rfl, HH.out.bx.below⟩
          · skip
            obtain rfl : R = true := by
              have h := HR.out
              rw [b1, b0, b2, b3, b4] at h
              exact h.symm
            clear HR
            go_wp2_with fail
            refine (C5.out _ _ HH.out.bx b4).mono ?_
            rintro e w5 ⟨rfl, hb⟩
            replace HH : Hid (Bk.Hb W w5 q m a) := HH.out.on hb
            clear hb x10 h0 h1 h2 h3 h4 h5 h6 h7
            go_wp2
            go_ret
            exact ⟨rfl, HH.out.bx.below⟩
    · have g1 : ¬ ((0 : Int) < (m.masters.length : Int)) := by omega
      have b0 : decide (0 < m.masters.length) = false := decide_eq_false g0
      obtain rfl : R = false := by
        have h := HR.out
        rw [b1, b0] at h
        exact h.symm
      clear HR
      go_wp2
      go_ret
      exact ⟨rfl, HH.out.bx.below⟩
end Go.Proofs.YtoinkaakiohclaaDoor
