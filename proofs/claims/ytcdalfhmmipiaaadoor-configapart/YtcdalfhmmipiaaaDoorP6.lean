/- Layer 13: what package config is said to do, whatever it is made of; law 13's own few, known. -/
import Derived.Test.YtcdalfhmmipiaaaDoorP2
import Derived.Test.YtcdalfhmmipiaaaDoorP5
import Derived.Test.YtcdalfhmmipiaaaDoorB3
import Derived.Test.YtcdalfhmmipiaaaDoorMo
namespace Go.Proofs.YtcdalfhmmipiaaaDoor
open Go.RowKit Go.WideShapes
set_option linter.unusedVariables false
theorem rparse_any (W : World) (b : List UInt8) (hl : b.length ≤ 1000) : Calls Tryd.prog 16 #[.string ⟨b.toArray⟩] W fun e w' => Told13 b e w' ∧ Below W.heap.size W w' := rparse_of (fun W m a => rprint_any W m a) W b hl
/-- What Parse tells: the matrix whose bytes they are, or none. -/
def Told (b : List UInt8) (e : Ending) (w' : World) : Prop :=
  (∃ m a, Pq.Of b m ∧ e = .returned (.tuple #[mV m a, .int .i64 0]) ∧ MIn w' m a) ∨ ((∀ m, ¬ Pq.Of b m) ∧ ∃ a, e = .returned (.tuple #[mV Mx.nil0 a, .int .i64 130]) ∧ MIn w' Mx.nil0 a)
structure ConfSpec (Q : World → Prop) : Prop where
  print : ∀ (w : World) (m : Mx.M) (a : Ma), Q w → MIn w m a → Mx.Small m → Mx.Wf m → Ob.Looks Tryd.prog 11 #[mV m a] w (.string ⟨(Pq.pr m).toArray⟩)
  parse : ∀ (w : World) (b : List UInt8), Q w → b.length ≤ 1000 → Calls Tryd.prog 12 #[.string ⟨b.toArray⟩] w fun e w' => Told b e w' ∧ Below w.heap.size w w'
  size : ∀ (w : World) (m : Mx.M) (a : Ma), Q w → MIn w m a → Mx.Small m → Mx.Wf m → Ob.Looks Tryd.prog 14 #[mV m a] w (.int .i64 ((Pq.pr m).length : Int))
set_option maxRecDepth 100000 in
set_option maxHeartbeats 1000000 in
theorem few13_any (w : World) (m : Mx.M) (a : Ma) : Ob.Looks Tryd.prog 10 #[mV m a] w (.bool (Mx.few m)) := by
  have HR : RowT 27 (w.alloc (.cells (mCs m a) 27)) w.heap.size (mCs m a) := RowT.new _ _ _
  obtain ⟨_, _, _, _, _, _, _, _, x8, x9, x10⟩ := HR.mat
  unfold Ob.Looks
  show Calls _ _ #[.agg (mCs m a)] _ _
  generalize mCs m a = cs at x8 x9 x10 ⊢
  clear HR
  unfold Mx.few
  generalize m.masters.length = n1 at x8 ⊢
  generalize m.messages.length = n2 at x9 ⊢
  generalize m.windows.length = n3 at x10 ⊢
  by_cases h1 : n1 ≤ 10
  · have i1 : (n1 : Int) ≤ 10 := by omega
    by_cases h2 : n2 ≤ 20
    · have i2 : (n2 : Int) ≤ 20 := by omega
      by_cases h3 : n3 ≤ 25
      · have i3 : (n3 : Int) ≤ 25 := by omega
        go_enter Tryd.func10, Tryd.ntmps10
        go_wp2
        go_ret
        exact ⟨by simp_all, (Below.refl _ _).alloc (Nat.le_refl _) _⟩
      · have i3 : ¬ ((n3 : Int) ≤ 25) := by omega
        go_enter Tryd.func10, Tryd.ntmps10
        go_wp2
        go_ret
        exact ⟨by simp_all, (Below.refl _ _).alloc (Nat.le_refl _) _⟩
    · have i2 : ¬ ((n2 : Int) ≤ 20) := by omega
      go_enter Tryd.func10, Tryd.ntmps10
      go_wp2
      go_ret
      exact ⟨by simp_all, (Below.refl _ _).alloc (Nat.le_refl _) _⟩
  · have i1 : ¬ ((n1 : Int) ≤ 10) := by omega
    go_enter Tryd.func10, Tryd.ntmps10
    go_wp2
    go_ret
    exact ⟨by simp_all, (Below.refl _ _).alloc (Nat.le_refl _) _⟩
def Mx.k13 : Mx.M := ⟨1, 2, 1, 200, 1, 16, 0, 0, [0], [], []⟩
theorem is_k13 : Mx.is Mx.k13 = true := by decide
theorem pr_k13 : Pq.pr Mx.k13 = [79, 1, 2, 1, 0, 200, 1, 16, 0, 0, 0, 0, 1, 0, 0, 0] := by decide
theorem cat_bytes (l r : List UInt8) : (⟨l.toArray⟩ : ByteArray) ++ ⟨r.toArray⟩ = ⟨(l ++ r).toArray⟩ := by
  apply ByteArray.ext
  apply Array.toList_inj.1
  simp
set_option maxRecDepth 100000 in
set_option maxHeartbeats 2000000 in
theorem known13_any {Q : World → Prop} (hQ : ∀ w w', Q w → Below w.heap.size w w' → Q w') (S : ConfSpec Q) (W : World) (hW : Q W) : Calls Tryd.prog 9 #[] W fun e w' => e = .returned (.bool true) ∧ Below W.heap.size W w' := by
  have HQ : Hid (∀ w, Below W.heap.size W w → Q w) := fun w hb => hQ W w hW hb
  obtain ⟨t, ht⟩ : ∃ t, Pq.pr Mx.k13 = 79 :: t := ⟨[1, 2, 1, 0, 200, 1, 16, 0, 0, 0, 0, 1, 0, 0, 0], pr_k13⟩
  have hln : t.length = 15 := by have := congrArg List.length ht; rw [pr_k13] at this; simp at this; omega
  have HO : Hid (Pq.Of (79 :: t) Mx.k13) := ⟨is_k13, ht⟩
  have HN : Hid (∀ n, ¬ Pq.Of (79 :: t ++ [120]) n) := fun n => by rw [← ht]; exact Pq.more_none is_k13 [120] (by simp)
  have hsz : (⟨((79 : UInt8) :: t).toArray⟩ : ByteArray).size = 16 := by show ((79 : UInt8) :: t).toArray.size = _; simp [hln]
  have hx0 : (⟨((79 : UInt8) :: t).toArray⟩ : ByteArray)[0].toNat = 79 := rfl
  have hcat : (⟨((79 : UInt8) :: t).toArray⟩ : ByteArray) ++ ⟨#[120]⟩ = ⟨(79 :: t ++ [120]).toArray⟩ := cat_bytes (79 :: t) [120]
  have HPr : Hid (∀ w p a, Bx W w p Mx.k13 a → Calls Tryd.prog 11 #[mV Mx.k13 a] w fun e w' => e = .returned (.string ⟨((79 : UInt8) :: t).toArray⟩) ∧ Below w.heap.size w w') := fun w p a h => by
    have := S.print w Mx.k13 a (HQ.out _ h.below) h.mem (Mx.small_is is_k13) (Mx.wf_is is_k13)
    rw [ht] at this
    exact this
  have HPz : Hid (∀ w, Below W.heap.size W w → Calls Tryd.prog 11 #[mV Mx.nil0 Ma.nil0] w fun e w' => e = .returned (.string ⟨#[]⟩) ∧ Below w.heap.size w w') := fun w h => S.print w Mx.nil0 Ma.nil0 (HQ.out _ h) (min_nil w) Mx.small_nil Mx.wf_nil
  have HSz : Hid (∀ w p a, Bx W w p Mx.k13 a → Calls Tryd.prog 14 #[mV Mx.k13 a] w fun e w' => e = .returned (.int .i64 16) ∧ Below w.heap.size w w') := fun w p a h => by
    have := S.size w Mx.k13 a (HQ.out _ h.below) h.mem (Mx.small_is is_k13) (Mx.wf_is is_k13)
    rw [pr_k13] at this
    exact this
  have HPa : Hid (∀ w b, Below W.heap.size W w → b.length ≤ 1000 → Calls Tryd.prog 12 #[.string ⟨b.toArray⟩] w fun e w' => Told b e w' ∧ Below w.heap.size w w') := fun w b h hl => S.parse w b (HQ.out _ h) hl
  have HX : Hid (Bx W ((W.alloc (.cells #[.int .i64 0] 3)).alloc (.cells (mCs Mx.k13 ⟨some ⟨W.heap.size, 0, none⟩, 1, none, 0, none, 0⟩) 27)) (W.heap.size + 1) Mx.k13 ⟨some ⟨W.heap.size, 0, none⟩, 1, none, 0, none, 0⟩) := by
    have hb : Below W.heap.size W (W.alloc (.cells #[.int .i64 0] 3)) := (Below.refl _ _).alloc (Nat.le_refl _) _
    have hm : MIn (W.alloc (.cells #[.int .i64 0] 3)) Mx.k13 ⟨some ⟨W.heap.size, 0, none⟩, 1, none, 0, none, 0⟩ := ⟨⟨Nat.le_refl _, (by decide : 1 ≤ maxLen), Or.inr ⟨W.heap.size, 0, rfl, by simp, fun k v hk => by rw [cell_of_row _ _ _ _ _ _ (heap_alloc_new W _), Nat.zero_add, ← hk]; simp [Mx.k13, mC1]⟩⟩, ⟨Nat.le_refl _, Nat.zero_le _, Or.inl rfl⟩, ⟨Nat.le_refl _, Nat.zero_le _, Or.inl rfl⟩⟩
    have h2 := Bx.mk' hm
    have e : (W.alloc (.cells #[.int .i64 0] 3)).heap.size = W.heap.size + 1 := by simp
    rw [e] at h2
    exact ⟨h2.row, h2.mem, hb.trans (h2.below.mono hb.size)⟩
  clear hW hQ ht
  go_enter Tryd.func9, Tryd.ntmps9
  go_wp2_with fail
  refine (HPr.out _ _ ⟨some ⟨W.heap.size, 0, none⟩, 1, none, 0, none, 0⟩ HX.out).mono ?_
  rintro e w1 ⟨rfl, hb⟩
  replace HX : Hid (Bx W w1 (W.heap.size + 1) Mx.k13 ⟨some ⟨W.heap.size, 0, none⟩, 1, none, 0, none, 0⟩) := HX.out.on hb
  clear hb
  go_wp2_with fail
  refine (HPa.out _ (79 :: t) HX.out.below (by simp [hln])).mono ?_
  rintro e w2 ⟨ht, hb⟩
  replace HX : Hid (Bx W w2 (W.heap.size + 1) Mx.k13 ⟨some ⟨W.heap.size, 0, none⟩, 1, none, 0, none, 0⟩) := HX.out.on hb
  clear hb
  rcases ht with ht | ⟨hno, _⟩
  rotate_left
  · exact absurd HO.out (hno _)
  obtain ⟨n, a2, hof, rfl, hmi⟩ := ht
  obtain rfl : n = Mx.k13 := hof.unique HO.out
  clear hof HO
  have HY : Hid (Bx W (w2.alloc (.cells #[.int .i64 Mx.k13.level, .int .i64 Mx.k13.nodes, .int .i64 Mx.k13.cycles, .int .i64 Mx.k13.length, .int .i64 Mx.k13.enable, .int .i64 Mx.k13.unit, .int .i64 Mx.k13.init, .int .u32 (Mx.k13.ref : Int), .slice a2.s1 Mx.k13.masters.length a2.c1, .slice a2.s2 Mx.k13.messages.length a2.c2, .slice a2.s3 Mx.k13.windows.length a2.c3] 27)) w2.heap.size Mx.k13 a2) := Bx.make HX.out.below hmi
  replace HX : Hid (Bx W (w2.alloc (.cells #[.int .i64 Mx.k13.level, .int .i64 Mx.k13.nodes, .int .i64 Mx.k13.cycles, .int .i64 Mx.k13.length, .int .i64 Mx.k13.enable, .int .i64 Mx.k13.unit, .int .i64 Mx.k13.init, .int .u32 (Mx.k13.ref : Int), .slice a2.s1 Mx.k13.masters.length a2.c1, .slice a2.s2 Mx.k13.messages.length a2.c2, .slice a2.s3 Mx.k13.windows.length a2.c3] 27)) (W.heap.size + 1) Mx.k13 ⟨some ⟨W.heap.size, 0, none⟩, 1, none, 0, none, 0⟩) := HX.out.al _
  dsimp only [mV, mCs]
  go_upto_region 4 with fail
  generalize (w2.alloc (.cells #[.int .i64 Mx.k13.level, .int .i64 Mx.k13.nodes, .int .i64 Mx.k13.cycles, .int .i64 Mx.k13.length, .int .i64 Mx.k13.enable, .int .i64 Mx.k13.unit, .int .i64 Mx.k13.init, .int .u32 (Mx.k13.ref : Int), .slice a2.s1 Mx.k13.masters.length a2.c1, .slice a2.s2 Mx.k13.messages.length a2.c2, .slice a2.s3 Mx.k13.windows.length a2.c3] 27)) = v2 at HX HY ⊢
  clear hmi
  go_wp2_with fail
  refine (HPa.out _ (79 :: (t ++ [120])) HX.out.below (by simp [hln])).mono ?_
  rintro e w3 ⟨ht, hb⟩
  replace HX : Hid (Bx W w3 (W.heap.size + 1) Mx.k13 ⟨some ⟨W.heap.size, 0, none⟩, 1, none, 0, none, 0⟩) := HX.out.on hb
  replace HY : Hid (Bx W w3 w2.heap.size Mx.k13 a2) := HY.out.on hb
  clear hb
  rcases ht with ⟨n, a3, hof, _⟩ | ⟨_, a3, rfl, hmi⟩
  · exact absurd hof (HN.out n)
  clear hmi
  replace HX : Hid (Bx W (w3.alloc (.cells #[.int .i64 Mx.nil0.level, .int .i64 Mx.nil0.nodes, .int .i64 Mx.nil0.cycles, .int .i64 Mx.nil0.length, .int .i64 Mx.nil0.enable, .int .i64 Mx.nil0.unit, .int .i64 Mx.nil0.init, .int .u32 (Mx.nil0.ref : Int), .slice a3.s1 Mx.nil0.masters.length a3.c1, .slice a3.s2 Mx.nil0.messages.length a3.c2, .slice a3.s3 Mx.nil0.windows.length a3.c3] 27)) (W.heap.size + 1) Mx.k13 ⟨some ⟨W.heap.size, 0, none⟩, 1, none, 0, none, 0⟩) := HX.out.al _
  replace HY : Hid (Bx W (w3.alloc (.cells #[.int .i64 Mx.nil0.level, .int .i64 Mx.nil0.nodes, .int .i64 Mx.nil0.cycles, .int .i64 Mx.nil0.length, .int .i64 Mx.nil0.enable, .int .i64 Mx.nil0.unit, .int .i64 Mx.nil0.init, .int .u32 (Mx.nil0.ref : Int), .slice a3.s1 Mx.nil0.masters.length a3.c1, .slice a3.s2 Mx.nil0.messages.length a3.c2, .slice a3.s3 Mx.nil0.windows.length a3.c3] 27)) w2.heap.size Mx.k13 a2) := HY.out.al _
  dsimp only [mV, mCs]
  go_upto_region 5 with fail
  generalize (w3.alloc (.cells #[.int .i64 Mx.nil0.level, .int .i64 Mx.nil0.nodes, .int .i64 Mx.nil0.cycles, .int .i64 Mx.nil0.length, .int .i64 Mx.nil0.enable, .int .i64 Mx.nil0.unit, .int .i64 Mx.nil0.init, .int .u32 (Mx.nil0.ref : Int), .slice a3.s1 Mx.nil0.masters.length a3.c1, .slice a3.s2 Mx.nil0.messages.length a3.c2, .slice a3.s3 Mx.nil0.windows.length a3.c3] 27)) = v3 at HX HY ⊢
  obtain ⟨x0, x1, x2, x3, x4, x5, x6, x7, x8, x9, x10⟩ := HX.out.row.mat
  obtain ⟨y0, y1, y2, y3, y4, y5, y6, y7, y8, y9, y10⟩ := HY.out.row.mat
  go_wp2_with fail
  refine (rsame_any _ Mx.k13 Mx.k13 _ a2 HX.out.mem HY.out.mem (Mx.small_is is_k13) (Mx.small_is is_k13)).mono ?_
  rintro e w4 ⟨rfl, hb⟩
  replace HX : Hid (Bx W w4 (W.heap.size + 1) Mx.k13 ⟨some ⟨W.heap.size, 0, none⟩, 1, none, 0, none, 0⟩) := HX.out.on hb
  replace HY : Hid (Bx W w4 w2.heap.size Mx.k13 a2) := HY.out.on hb
  clear x0 x1 x10 x2 x3 x4 x5 x6 x7 x8 x9 y0 y1 y10 y2 y3 y4 y5 y6 y7 y8 y9
  clear hb
  obtain ⟨x0, x1, x2, x3, x4, x5, x6, x7, x8, x9, x10⟩ := HX.out.row.mat
  go_wp2_with fail
  refine (HSz.out _ _ _ HX.out).mono ?_
  rintro e w5 ⟨rfl, hb⟩
  replace HX : Hid (Bx W w5 (W.heap.size + 1) Mx.k13 ⟨some ⟨W.heap.size, 0, none⟩, 1, none, 0, none, 0⟩) := HX.out.on hb
  replace HY : Hid (Bx W w5 w2.heap.size Mx.k13 a2) := HY.out.on hb
  clear x0 x1 x10 x2 x3 x4 x5 x6 x7 x8 x9
  clear hb
  go_wp2_with fail
  refine (HPz.out _ HX.out.below).mono ?_
  rintro e w6 ⟨rfl, hb⟩
  replace HX : Hid (Bx W w6 (W.heap.size + 1) Mx.k13 ⟨some ⟨W.heap.size, 0, none⟩, 1, none, 0, none, 0⟩) := HX.out.on hb
  replace HY : Hid (Bx W w6 w2.heap.size Mx.k13 a2) := HY.out.on hb
  clear hb
  go_wp2
  go_ret
  exact ⟨rfl, HX.out.below⟩
end Go.Proofs.YtcdalfhmmipiaaaDoor
