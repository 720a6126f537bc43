/- Package config, over the landed code: Print, Size. -/
import Derived.Test.YtcdalfhmmipiaaaDoorP8
import Derived.Test.YtcdalfhmmipiaaaDoorBh
namespace Go.Proofs.YtcdalfhmmipiaaaDoor
open Go.RowKit Go.WideShapes
set_option linter.unusedVariables false
/-- A matrix in a block, a writer beside it. -/
structure Pp (W v : World) (m : Mx.M) (a : Ma) (p : Nat) (l : List UInt8) : Prop where
  orig : MIn W m a
  bel : Below W.heap.size W v
  row : RowT 27 v W.heap.size (mCs m a)
  wt : Wt W.heap.size v p l
theorem Pp.mem {W v : World} {m : Mx.M} {a : Ma} {p : Nat} {l : List UInt8} (h : Pp W v m a p l) : MIn v m a := h.orig.on h.bel
theorem Pp.wr {W v v' : World} {m : Mx.M} {a : Ma} {p : Nat} {l l' : List UInt8} (h : Pp W v m a p l) (hk : Wk W.heap.size v v' p l') : Pp W v' m a p l' := ⟨h.orig, h.bel.trans hk.bel, hk.keep _ _ _ (by decide) (by decide) h.row, hk.wt⟩
theorem Pp.on {W v v' : World} {m : Mx.M} {a : Ma} {p : Nat} {l : List UInt8} (h : Pp W v m a p l) (hb : Below v.heap.size v v') : Pp W v' m a p l := ⟨h.orig, h.bel.trans (hb.mono h.bel.size), h.row.on hb, h.wt.on hb⟩
theorem Pp.al {W v : World} {m : Mx.M} {a : Ma} {p : Nat} {l : List UInt8} (h : Pp W v m a p l) (o : Obj) : Pp W (v.alloc o) m a p l := h.on ((Below.refl _ _).alloc (Nat.le_refl _) _)
theorem Wt.new {B : Nat} {w : World} (hB : B ≤ w.heap.size) : Wt B (w.alloc (.cells #[.slice none 0 0] 45)) w.heap.size [] :=
  ⟨none, 0, 0, RowT.new _ _ _, Sg.OL.nil _ _ _ _, hB, by simp; omega⟩
set_option maxRecDepth 100000 in
set_option maxHeartbeats 4000000 in
theorem ck_print (W : World) (hT : Tab W) (m : Mx.M) (a : Ma) (hm : MIn W m a) (hS : Mx.Small m) : Calls Tryd.prog 11 #[mV m a] W fun e w' => e = .returned (.string ⟨(Pq.pr m).toArray⟩) ∧ Below W.heap.size W w' := by
  have HR : Hid (RowT 27 (W.alloc (.cells (mCs m a) 27)) W.heap.size (mCs m a)) := RowT.new _ _ _
  have HO : Hid (MIn W m a) := hm
  have HA : Hid (Below W.heap.size W (W.alloc (.cells (mCs m a) 27))) := (Below.refl _ _).alloc (Nat.le_refl _) _
  have HI : Hid (∀ w, Below W.heap.size W w → Calls Tryd.prog 19 #[mV m a] w fun e w' => e = .returned (.bool (Mx.is m)) ∧ Below w.heap.size w w') := fun w hb => mk_is w (hT.below hb) m a (HO.out.on hb) hS
  have HY : Hid (∀ w, RowT 27 w W.heap.size (mCs m a) → (w.cell? ⟨W.heap.size, 0, none⟩ = some (.int .i64 m.level) ∧ w.cell? ⟨W.heap.size, 1, none⟩ = some (.int .i64 m.nodes) ∧ w.cell? ⟨W.heap.size, 2, none⟩ = some (.int .i64 m.cycles) ∧ w.cell? ⟨W.heap.size, 3, none⟩ = some (.int .i64 m.length) ∧ w.cell? ⟨W.heap.size, 4, none⟩ = some (.int .i64 m.enable) ∧ w.cell? ⟨W.heap.size, 5, none⟩ = some (.int .i64 m.unit) ∧ w.cell? ⟨W.heap.size, 6, none⟩ = some (.int .i64 m.init) ∧ w.cell? ⟨W.heap.size, 7, none⟩ = some (.int .u32 (m.ref : Int)) ∧ w.cell? ⟨W.heap.size, 8, none⟩ = some (.slice a.s1 m.masters.length a.c1) ∧ w.cell? ⟨W.heap.size, 9, none⟩ = some (.slice a.s2 m.messages.length a.c2) ∧ w.cell? ⟨W.heap.size, 10, none⟩ = some (.slice a.s3 m.windows.length a.c3))) := fun w h => h.mat
  clear hm hS hT
  cases hi : Mx.is m
  · rw [Pq.pr_no hi]
    rw [hi] at HI
    obtain ⟨y0, y1, y2, y3, y4, y5, y6, y7, y8, y9, y10⟩ := HY.out _ HR.out
    go_enter Tryd.func11, Tryd.ntmps11
    go_wp2_with fail
    refine (HI.out _ HA.out).mono ?_
    rintro e w1 ⟨rfl, hb1⟩
    have HA1 : Hid (Below W.heap.size W w1) := HA.out.trans (hb1.mono HA.out.size)
    clear hb1 HR HA HI y0 y1 y2 y3 y4 y5 y6 y7 y8 y9 y10
    go_wp2
    go_ret
    exact ⟨rfl, HA1.out⟩
  rw [Pq.pr_is hi]
  rw [hi] at HI
  have HN : Hid (Pq.Num m) := Pq.num_of hi
  clear hi
  have C1 : Hid (∀ (w : World) (p : Nat) (l : List UInt8) (x : Int), Wt W.heap.size w p l → l.length ≤ 900 → Calls Tryd.prog 21 #[Ob.ptr p, .int .i64 x] w (Wrote W.heap.size w p (l ++ [Pq.u8 x]))) := fun w p l x h hl => wr_one W.heap.size w p l x h (Nat.le_trans hl (by decide))
  have C2 : Hid (∀ (w : World) (p : Nat), Wt W.heap.size w p [] → Calls Tryd.prog 20 #[Ob.ptr p, mV m a] w (Wrote W.heap.size w p (Pq.front m))) := fun w p h => by
    have := wr_head W.heap.size w p [] m a (by have := HN.out.ref; omega) h (by simp)
    exact this
  have C3 : Hid (∀ (w : World) (p : Nat) (l : List UInt8) (x : Mx.Msg), x.id < 65536 → Wt W.heap.size w p l → l.length ≤ 900 → Calls Tryd.prog 22 #[Ob.ptr p, .agg #[.int .u32 (x.id : Int), .int .i64 x.owner, .bool x.event]] w (Wrote W.heap.size w p (l ++ Pq.mes x))) := fun w p l x hx h hl => wr_message W.heap.size w p l x (by omega) h hl
  have C4 : Hid (∀ (w : World) (p : Nat) (l : List UInt8) (x : Mx.Win), Wt W.heap.size w p l → l.length ≤ 900 → Calls Tryd.prog 23 #[Ob.ptr p, .agg #[.int .i64 x.kind, .int .i64 x.start, .int .i64 x.fin, .int .i64 x.cycle, .int .i64 x.rep, .int .i64 x.msg]] w (Wrote W.heap.size w p (l ++ Pq.win x))) := fun w p l x h hl => wr_window W.heap.size w p l x h hl
  obtain ⟨y0, y1, y2, y3, y4, y5, y6, y7, y8, y9, y10⟩ := HY.out _ HR.out
  go_enter Tryd.func11, Tryd.ntmps11
  go_wp2_with fail
  refine (HI.out _ HA.out).mono ?_
  rintro e w1 ⟨rfl, hb1⟩
  have HA1 : Hid (Below W.heap.size W w1) := HA.out.trans (hb1.mono HA.out.size)
  have HP : Hid (Pp W (w1.alloc (.cells #[.slice none 0 0] 45)) m a w1.heap.size []) := by
    have hal : Below w1.heap.size w1 (w1.alloc (.cells #[.slice none 0 0] 45)) := (Below.refl _ _).alloc (Nat.le_refl _) _
    exact ⟨HO.out, HA1.out.trans (hal.mono HA1.out.size), (HR.out.on hb1).on hal, Wt.new HA1.out.size⟩
  clear hb1 HR HA HI HA1 y0 y1 y2 y3 y4 y5 y6 y7 y8 y9 y10
  go_upto_region 4 with fail
  generalize w1.alloc (.cells #[.slice none 0 0] 45) = v0 at HP ⊢
  generalize w1.heap.size = p at HP ⊢
  obtain ⟨y0, y1, y2, y3, y4, y5, y6, y7, y8, y9, y10⟩ := HY.out _ HP.out.row
  go_wp2_with fail
  refine (C2.out _ _ HP.out.wt).mono ?_
  rintro e v1 ⟨rfl, hk⟩
  obtain ⟨l1, hl1⟩ : ∃ z, Pq.front m = z := ⟨_, rfl⟩
  rw [hl1] at hk
  have HF1 : Hid (Pq.front m = l1) := hl1
  have HL1 : Hid (l1.length ≤ 12) := by show _ ≤ _; rw [← hl1]; exact Nat.le_refl _
  have HP1 : Hid (Pp W v1 m a p l1) := HP.out.wr hk
  clear hk hl1 HP C2 y0 y1 y2 y3 y4 y5 y6 y7 y8 y9 y10
  obtain ⟨y0, y1, y2, y3, y4, y5, y6, y7, y8, y9, y10⟩ := HY.out _ HP1.out.row
  go_wp2_with fail
  refine (C1.out _ _ l1 (m.masters.length : Int) HP1.out.wt (Nat.le_trans HL1.out (by decide))).mono ?_
  rintro e v2 ⟨rfl, hk⟩
  obtain ⟨l2, hl2⟩ : ∃ z, l1 ++ [Pq.u8 (m.masters.length : Int)] = z := ⟨_, rfl⟩
  rw [hl2] at hk
  have HF2 : Hid (l1 ++ [Pq.u8 (m.masters.length : Int)] = l2) := hl2
  have HL2 : Hid (l2.length ≤ 13) := by show _ ≤ _; rw [← hl2, List.length_append]; exact Nat.add_le_add HL1.out (Nat.le_refl _)
  have HP2 : Hid (Pp W v2 m a p l2) := HP1.out.wr hk
  clear hk hl2 HP1 HL1 y0 y1 y2 y3 y4 y5 y6 y7 y8 y9 y10
  obtain ⟨y0, y1, y2, y3, y4, y5, y6, y7, y8, y9, y10⟩ := HY.out _ HP2.out.row
  go_wp2_with fail
  go_loopw [22, 5] (fun vi _v wr => ∃ k : Nat, k ≤ m.masters.length ∧ vi = .int .i64 (k : Int) ∧ Hid (Pp W wr m a p (l2 ++ (m.masters.take k).flatMap (fun x => [Pq.u8 x])))) (fun vi _ _ => m.masters.length - (intOf vi).toNat)
  case atStart =>
    refine ⟨0, Nat.zero_le _, rfl, ?_⟩
    rw [List.take_zero, List.flatMap_nil, List.append_nil]
    exact HP2
  case round =>
    clear HP2 y0 y1 y2 y3 y4 y5 y6 y7 y8 y9 y10
    obtain ⟨k, hk, rfl, HP⟩ := hrel
    have HL : Hid (m.masters.length ≤ 4) := HN.out.l1
    obtain ⟨y0, y1, y2, y3, y4, y5, y6, y7, y8, y9, y10⟩ := HY.out _ HP.out.row
    by_cases hkl : k < m.masters.length
    · obtain ⟨x, hx⟩ : ∃ x, m.masters[k]? = some x := ⟨_, List.getElem?_eq_getElem hkl⟩
      obtain ⟨g, o, hs, _, c0⟩ := HP.out.mem.master hx
      have ki : (k : Int) < (m.masters.length : Int) := by omega
      have kb : (k : Int) < 1000 := by have := HL.out; omega
      obtain ⟨l0, hl0⟩ : ∃ z, l2 ++ (m.masters.take k).flatMap (fun x => [Pq.u8 x]) = z := ⟨_, rfl⟩
      rw [hl0] at HP
      have HL0 : Hid (l0.length ≤ 900) := by
        show _ ≤ _
        rw [← hl0, List.length_append, Pq.flat_len (fun x => [Pq.u8 x]) 1 (fun _ => rfl), List.length_take]
        have := HL2.out; have := HL.out; omega
      have HX : Hid (l2 ++ (m.masters.take (k + 1)).flatMap (fun x => [Pq.u8 x]) = l0 ++ [Pq.u8 x]) := by
        show _ = _
        rw [List.take_add_one, hx, List.flatMap_append, ← hl0, List.append_assoc]
        simp
      have HPa : Hid (Pp W wr m a p l0) := HP.out
      
      clear hx hl0 HP
      go_wp2_with fail
      refine (C1.out _ _ l0 x HPa.out.wt HL0.out).mono ?_
      rintro e vn ⟨rfl, hkk⟩
      have HPn : Hid (Pp W vn m a p (l0 ++ [Pq.u8 x])) := HPa.out.wr hkk
      clear hkk HPa
      go_wp2_with fail
      rw [← hs]
      go_roundw
      case rel =>
        refine ⟨k + 1, by omega, rfl, ?_⟩
        rw [HX.out]
        exact HPn
      case measure => simp only [intOf]; omega
    · obtain rfl : k = m.masters.length := by omega
      have kn : ¬ ((m.masters.length : Int) < (m.masters.length : Int)) := by omega
      rw [List.take_length] at HP
      obtain ⟨l3, hl3⟩ : ∃ z, l2 ++ m.masters.flatMap (fun x => [Pq.u8 x]) = z := ⟨_, rfl⟩
      rw [hl3] at HP
      have HF3 : Hid (l2 ++ m.masters.flatMap (fun x => [Pq.u8 x]) = l3) := hl3
      have HL3 : Hid (l3.length ≤ 17) := by
        show _ ≤ _
        rw [← hl3, List.length_append, Pq.flat_len (fun x => [Pq.u8 x]) 1 (fun _ => rfl)]
        have := HL2.out; have := HL.out; omega
      clear hl3 HL HL2
      go_wp2_with fail
      refine (C1.out _ _ l3 (m.messages.length : Int) HP.out.wt (Nat.le_trans HL3.out (by decide))).mono ?_
      rintro e v3 ⟨rfl, hkk⟩
      obtain ⟨l4, hl4⟩ : ∃ z, l3 ++ [Pq.u8 (m.messages.length : Int)] = z := ⟨_, rfl⟩
      rw [hl4] at hkk
      have HF4 : Hid (l3 ++ [Pq.u8 (m.messages.length : Int)] = l4) := hl4
      have HL4 : Hid (l4.length ≤ 18) := by show _ ≤ _; rw [← hl4, List.length_append]; exact Nat.add_le_add HL3.out (Nat.le_refl _)
      have HP4 : Hid (Pp W v3 m a p l4) := HP.out.wr hkk
      clear hkk hl4 HP HL3 y0 y1 y2 y3 y4 y5 y6 y7 y8 y9 y10
      obtain ⟨y0, y1, y2, y3, y4, y5, y6, y7, y8, y9, y10⟩ := HY.out _ HP4.out.row
      go_wp2_with fail
      go_loopw [36, 7] (fun vi _v wr => ∃ k : Nat, k ≤ m.messages.length ∧ vi = .int .i64 (k : Int) ∧ Hid (Pp W wr m a p (l4 ++ (m.messages.take k).flatMap Pq.mes))) (fun vi _ _ => m.messages.length - (intOf vi).toNat)
      case atStart =>
        refine ⟨0, Nat.zero_le _, rfl, ?_⟩
        rw [List.take_zero, List.flatMap_nil, List.append_nil]
        exact HP4
      case round =>
        clear HP4 y0 y1 y2 y3 y4 y5 y6 y7 y8 y9 y10
        obtain ⟨k, hk, rfl, HP⟩ := hrel
        have HL : Hid (m.messages.length ≤ 12) := HN.out.l2
        obtain ⟨y0, y1, y2, y3, y4, y5, y6, y7, y8, y9, y10⟩ := HY.out _ HP.out.row
        by_cases hkl : k < m.messages.length
        · obtain ⟨x, hx⟩ : ∃ x, m.messages[k]? = some x := ⟨_, List.getElem?_eq_getElem hkl⟩
          obtain ⟨g, o, hs, _, c0, c1, c2⟩ := HP.out.mem.message hx
          have ki : (k : Int) < (m.messages.length : Int) := by omega
          have kb : (k : Int) < 1000 := by have := HL.out; omega
          obtain ⟨l0, hl0⟩ : ∃ z, l4 ++ (m.messages.take k).flatMap Pq.mes = z := ⟨_, rfl⟩
          rw [hl0] at HP
          have HL0 : Hid (l0.length ≤ 900) := by
            show _ ≤ _
            rw [← hl0, List.length_append, Pq.flat_len Pq.mes 4 Pq.mes_len, List.length_take]
            have := HL4.out; have := HL.out; omega
          have HX : Hid (l4 ++ (m.messages.take (k + 1)).flatMap Pq.mes = l0 ++ Pq.mes x) := by
            show _ = _
            rw [List.take_add_one, hx, List.flatMap_append, ← hl0, List.append_assoc]
            simp
          have hid : x.id < 65536 := (HN.out.messages x (List.mem_of_getElem? hx)).1
          have HId : Hid (x.id < 65536) := hid
          have HPa : Hid (Pp W (wr.alloc (.cells #[.int .u32 (x.id : Int), .int .i64 x.owner, .bool x.event] 49)) m a p l0) := HP.out.al _
          
          clear hx hl0 HP hid
          go_wp2_with fail
          refine (C3.out _ _ l0 x HId.out HPa.out.wt HL0.out).mono ?_
          rintro e vn ⟨rfl, hkk⟩
          have HPn : Hid (Pp W vn m a p (l0 ++ Pq.mes x)) := HPa.out.wr hkk
          clear hkk HPa
          go_wp2_with fail
          rw [← hs]
          go_roundw
          case rel =>
            refine ⟨k + 1, by omega, rfl, ?_⟩
            rw [HX.out]
            exact HPn
          case measure => simp only [intOf]; omega
        · obtain rfl : k = m.messages.length := by omega
          have kn : ¬ ((m.messages.length : Int) < (m.messages.length : Int)) := by omega
          rw [List.take_length] at HP
          obtain ⟨l5, hl5⟩ : ∃ z, l4 ++ m.messages.flatMap Pq.mes = z := ⟨_, rfl⟩
          rw [hl5] at HP
          have HF5 : Hid (l4 ++ m.messages.flatMap Pq.mes = l5) := hl5
          have HL5 : Hid (l5.length ≤ 66) := by
            show _ ≤ _
            rw [← hl5, List.length_append, Pq.flat_len Pq.mes 4 Pq.mes_len]
            have := HL4.out; have := HL.out; omega
          clear hl5 HL HL4
          go_wp2_with fail
          refine (C1.out _ _ l5 (m.windows.length : Int) HP.out.wt (Nat.le_trans HL5.out (by decide))).mono ?_
          rintro e v5 ⟨rfl, hkk⟩
          obtain ⟨l6, hl6⟩ : ∃ z, l5 ++ [Pq.u8 (m.windows.length : Int)] = z := ⟨_, rfl⟩
          rw [hl6] at hkk
          have HF6 : Hid (l5 ++ [Pq.u8 (m.windows.length : Int)] = l6) := hl6
          have HL6 : Hid (l6.length ≤ 67) := by show _ ≤ _; rw [← hl6, List.length_append]; exact Nat.add_le_add HL5.out (Nat.le_refl _)
          have HP6 : Hid (Pp W v5 m a p l6) := HP.out.wr hkk
          clear hkk hl6 HP HL5 y0 y1 y2 y3 y4 y5 y6 y7 y8 y9 y10
          obtain ⟨y0, y1, y2, y3, y4, y5, y6, y7, y8, y9, y10⟩ := HY.out _ HP6.out.row
          go_wp2_with fail
          go_loopw [50, 9] (fun vi _v wr => ∃ k : Nat, k ≤ m.windows.length ∧ vi = .int .i64 (k : Int) ∧ Hid (Pp W wr m a p (l6 ++ (m.windows.take k).flatMap Pq.win))) (fun vi _ _ => m.windows.length - (intOf vi).toNat)
          case atStart =>
            refine ⟨0, Nat.zero_le _, rfl, ?_⟩
            rw [List.take_zero, List.flatMap_nil, List.append_nil]
            exact HP6
          case round =>
            clear HP6 y0 y1 y2 y3 y4 y5 y6 y7 y8 y9 y10
            obtain ⟨k, hk, rfl, HP⟩ := hrel
            have HL : Hid (m.windows.length ≤ 16) := HN.out.l3
            obtain ⟨y0, y1, y2, y3, y4, y5, y6, y7, y8, y9, y10⟩ := HY.out _ HP.out.row
            by_cases hkl : k < m.windows.length
            · obtain ⟨x, hx⟩ : ∃ x, m.windows[k]? = some x := ⟨_, List.getElem?_eq_getElem hkl⟩
              obtain ⟨g, o, hs, _, c0, c1, c2, c3, c4, c5⟩ := HP.out.mem.window hx
              have ki : (k : Int) < (m.windows.length : Int) := by omega
              have kb : (k : Int) < 1000 := by have := HL.out; omega
              obtain ⟨l0, hl0⟩ : ∃ z, l6 ++ (m.windows.take k).flatMap Pq.win = z := ⟨_, rfl⟩
              rw [hl0] at HP
              have HL0 : Hid (l0.length ≤ 900) := by
                show _ ≤ _
                rw [← hl0, List.length_append, Pq.flat_len Pq.win 8 Pq.win_len, List.length_take]
                have := HL6.out; have := HL.out; omega
              have HX : Hid (l6 ++ (m.windows.take (k + 1)).flatMap Pq.win = l0 ++ Pq.win x) := by
                show _ = _
                rw [List.take_add_one, hx, List.flatMap_append, ← hl0, List.append_assoc]
                simp
              have HPa : Hid (Pp W (wr.alloc (.cells #[.int .i64 x.kind, .int .i64 x.start, .int .i64 x.fin, .int .i64 x.cycle, .int .i64 x.rep, .int .i64 x.msg] 52)) m a p l0) := HP.out.al _
              
              clear hx hl0 HP
              go_wp2_with fail
              refine (C4.out _ _ l0 x HPa.out.wt HL0.out).mono ?_
              rintro e vn ⟨rfl, hkk⟩
              have HPn : Hid (Pp W vn m a p (l0 ++ Pq.win x)) := HPa.out.wr hkk
              clear hkk HPa
              go_wp2_with fail
              rw [← hs]
              go_roundw
              case rel =>
                refine ⟨k + 1, by omega, rfl, ?_⟩
                rw [HX.out]
                exact HPn
              case measure => simp only [intOf]; omega
            · obtain rfl : k = m.windows.length := by omega
              have kn : ¬ ((m.windows.length : Int) < (m.windows.length : Int)) := by omega
              rw [List.take_length] at HP
              obtain ⟨s, c, n, hr, hb, hp, hB⟩ := HP.out.wt
              have cw : wr.cell? ⟨p, 0, none⟩ = some (.slice s n c) := hr.c 0 _ rfl
              have hcv := hb.conv
              have HE : Hid (l6 ++ m.windows.flatMap Pq.win = Pq.laid m) := by
                show _ = _
                unfold Pq.laid
                rw [← HF6.out, ← HF5.out, ← HF4.out, ← HF3.out, ← HF2.out, ← HF1.out, Pq.map_flat]
                simp only [List.append_assoc, List.cons_append, List.nil_append]
              have HB : Hid (Below W.heap.size W wr) := HP.out.bel
              rw [HE.out] at hcv
              clear HP HE hr hb HL HL6 HF1 HF2 HF3 HF4 HF5 HF6 HN y0 y1 y2 y3 y4 y5 y6 y7 y8 y9 y10
              go_wp2
              go_ret
              exact ⟨rfl, HB.out⟩
set_option maxRecDepth 100000 in
set_option maxHeartbeats 1000000 in
theorem ck_size (W : World) (hT : Tab W) (m : Mx.M) (a : Ma) (hm : MIn W m a) (hS : Mx.Small m) : Calls Tryd.prog 14 #[mV m a] W fun e w' => e = .returned (.int .i64 ((Pq.pr m).length : Int)) ∧ Below W.heap.size W w' := by
  have HR : RowT 27 (W.alloc (.cells (mCs m a) 27)) W.heap.size (mCs m a) := RowT.new _ _ _
  have HA : Hid (Below W.heap.size W (W.alloc (.cells (mCs m a) 27))) := (Below.refl _ _).alloc (Nat.le_refl _) _
  have HI := ck_print (W.alloc (.cells (mCs m a) 27)) (hT.below HA.out) m a (hm.on HA.out) hS
  obtain ⟨y0, y1, y2, y3, y4, y5, y6, y7, y8, y9, y10⟩ := HR.mat
  have hsz : (⟨(Pq.pr m).toArray⟩ : ByteArray).size = (Pq.pr m).length := by show (Pq.pr m).toArray.size = _; simp
  have hle := Pq.pr_len_le m
  clear hm hS hT HR
  generalize Pq.pr m = l at *
  go_enter Tryd.func14, Tryd.ntmps14
  go_wp2_with fail
  refine HI.mono ?_
  rintro e w1 ⟨rfl, hb1⟩
  have HA1 : Hid (Below W.heap.size W w1) := HA.out.trans (hb1.mono HA.out.size)
  clear hb1 HA HI y0 y1 y2 y3 y4 y5 y6 y7 y8 y9 y10
  go_wp2
  go_ret
  refine ⟨?_, HA1.out⟩
  first | rfl | simp [hsz]
end Go.Proofs.YtcdalfhmmipiaaaDoor
