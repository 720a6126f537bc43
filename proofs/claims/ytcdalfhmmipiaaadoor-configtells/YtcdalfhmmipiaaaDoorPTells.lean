/- ConfigTells: of every matrix of few entries its bytes, by which it is known (others are let by); no condition. -/
import Derived.Test.YtcdalfhmmipiaaaDoorP6
import Derived.ProofKit
import Derived.OpenShut
namespace Go.Proofs.YtcdalfhmmipiaaaDoor.configTells
open Go.ChangeShapes Go.WideShapes Go.ChangeAt Go.RowKit
set_option linter.unusedVariables false
variable {Q : World → Prop}
set_option maxRecDepth 100000 in
set_option maxHeartbeats 4000000 in
theorem walkA (hQ : ∀ w w', Q w → Below w.heap.size w w' → Q w') (S : ConfSpec Q) (m : Mx.M) (a : Ma) {W0 : World} (hm : MIn W0 m a) (hwf : Mx.Wf m) (W : World) (hw0 : W = W0) (hW : Q W) :
    Calls Tryd.prog 3 #[mV m a] W fun e w' => e = .returned (.bool true) ∧ Below W.heap.size W w' := by
  subst hw0
  have HQ : Hid (∀ w, Below W.heap.size W w → Q w) := fun w hb => hQ W w hW hb
  have HK : Hid (∀ w, Below W.heap.size W w → Calls Tryd.prog 9 #[] w fun e w' => e = .returned (.bool true) ∧ Below w.heap.size w w') := fun w hb => known13_any hQ S w (HQ.out _ hb)
  have HPa : Hid (∀ w b, Below W.heap.size W w → b.length ≤ 1000 → Calls Tryd.prog 12 #[.string ⟨b.toArray⟩] w fun e w' => Told b e w' ∧ Below w.heap.size w w') := fun w b h hl => S.parse w b (HQ.out _ h) hl
  have HPr : Hid (∀ w, MIn w m a → Below W.heap.size W w → Mx.Small m → Calls Tryd.prog 11 #[mV m a] w fun e w' => e = .returned (.string ⟨(Pq.pr m).toArray⟩) ∧ Below w.heap.size w w') := fun w h hb hs => S.print w m a (HQ.out _ hb) h hs hwf
  have HSz : Hid (∀ w, MIn w m a → Below W.heap.size W w → Mx.Small m → Calls Tryd.prog 14 #[mV m a] w fun e w' => e = .returned (.int .i64 ((Pq.pr m).length : Int)) ∧ Below w.heap.size w w') := fun w h hb hs => S.size w m a (HQ.out _ hb) h hs hwf
  have HX : Hid (Bx W (W.alloc (.cells (mCs m a) 27)) W.heap.size m a) := Bx.mk' hm
  clear hm hwf hQ hW
  go_enter Tryd.func3, Tryd.ntmps3
  go_wp2_with fail
  refine (HK.out _ HX.out.below).mono ?_
  rintro e w1 ⟨rfl, hb⟩
  replace HX : Hid (Bx W w1 W.heap.size m a) := HX.out.on hb
  clear hb HK
  obtain ⟨y0, y1, y2, y3, y4, y5, y6, y7, y8, y9, y10⟩ := HX.out.row.mat
  go_wp2_with fail
  refine (few13_any w1 m a).mono ?_
  rintro e w2 ⟨rfl, hb⟩
  replace HX : Hid (Bx W w2 W.heap.size m a) := HX.out.on hb
  clear y0 y1 y10 y2 y3 y4 y5 y6 y7 y8 y9
  clear hb
  cases hfw : Mx.few m
  · go_wp2
    go_ret
    exact ⟨rfl, HX.out.below⟩
  have HS : Hid (Mx.Small m) := Mx.few_small hfw
  obtain ⟨y0, y1, y2, y3, y4, y5, y6, y7, y8, y9, y10⟩ := HX.out.row.mat
  cases hi : Mx.is m
  · have hp : Pq.pr m = [] := Pq.pr_no hi
    have HN : Hid (∀ n, ¬ Pq.Of [] n) := fun n h => Pq.pr_ne h.1 h.2
    rw [hp] at HPr HSz
    have HRp : Hid (∀ w, MIn w m a → Calls Tryd.prog 13 #[mV m a] w fun e w' => e = .returned (.string ⟨([] : List UInt8).toArray⟩) ∧ Below w.heap.size w w') := fun w h => by
      have := rprint_any w m a h HS.out
      rw [hp] at this
      exact this
    clear hp
    go_wp2_with fail
    refine (HPr.out _ HX.out.mem HX.out.below HS.out).mono ?_
    rintro e w3 ⟨rfl, hb⟩
    replace HX : Hid (Bx W w3 W.heap.size m a) := HX.out.on hb
    clear y0 y1 y10 y2 y3 y4 y5 y6 y7 y8 y9
    clear hb
    go_wp2_with fail
    refine (HPa.out _ [] HX.out.below (by simp)).mono ?_
    rintro e w4 ⟨ht, hb⟩
    replace HX : Hid (Bx W w4 W.heap.size m a) := HX.out.on hb
    clear hb
    rcases ht with ⟨n, a4, hof, _⟩ | ⟨_, a4, rfl, hmi⟩
    · exact absurd hof (HN.out n)
    replace HX : Hid (Bx W (w4.alloc (.cells #[.int .i64 Mx.nil0.level, .int .i64 Mx.nil0.nodes, .int .i64 Mx.nil0.cycles, .int .i64 Mx.nil0.length, .int .i64 Mx.nil0.enable, .int .i64 Mx.nil0.unit, .int .i64 Mx.nil0.init, .int .u32 (Mx.nil0.ref : Int), .slice a4.s1 Mx.nil0.masters.length a4.c1, .slice a4.s2 Mx.nil0.messages.length a4.c2, .slice a4.s3 Mx.nil0.windows.length a4.c3] 27)) W.heap.size m a) := HX.out.al _
    dsimp only [mV, mCs]
    go_upto_region 7 with fail
    generalize (w4.alloc (.cells #[.int .i64 Mx.nil0.level, .int .i64 Mx.nil0.nodes, .int .i64 Mx.nil0.cycles, .int .i64 Mx.nil0.length, .int .i64 Mx.nil0.enable, .int .i64 Mx.nil0.unit, .int .i64 Mx.nil0.init, .int .u32 (Mx.nil0.ref : Int), .slice a4.s1 Mx.nil0.masters.length a4.c1, .slice a4.s2 Mx.nil0.messages.length a4.c2, .slice a4.s3 Mx.nil0.windows.length a4.c3] 27)) = v4 at HX ⊢
    clear hmi
    obtain ⟨y0, y1, y2, y3, y4, y5, y6, y7, y8, y9, y10⟩ := HX.out.row.mat
    go_wp2_with fail
    refine (HRp.out _ HX.out.mem).mono ?_
    rintro e w5 ⟨rfl, hb⟩
    replace HX : Hid (Bx W w5 W.heap.size m a) := HX.out.on hb
    clear y0 y1 y10 y2 y3 y4 y5 y6 y7 y8 y9
    clear hb
    obtain ⟨y0, y1, y2, y3, y4, y5, y6, y7, y8, y9, y10⟩ := HX.out.row.mat
    go_wp2_with fail
    refine (HSz.out _ HX.out.mem HX.out.below HS.out).mono ?_
    rintro e w6 ⟨rfl, hb⟩
    replace HX : Hid (Bx W w6 W.heap.size m a) := HX.out.on hb
    clear y0 y1 y10 y2 y3 y4 y5 y6 y7 y8 y9
    clear hb
    go_wp2
    go_ret
    exact ⟨rfl, HX.out.below⟩
  · obtain ⟨t, hp⟩ : ∃ t, Pq.pr m = 79 :: t := ⟨_, by rw [Pq.pr_is hi]; rfl⟩
    have HO : Hid (Pq.Of (79 :: t) m) := ⟨hi, hp⟩
    have hln : t.length + 1 ≤ 195 := by have := Pq.pr_len_le m; rw [hp] at this; simpa using this
    have hsz : (⟨((79 : UInt8) :: t).toArray⟩ : ByteArray).size = t.length + 1 := by show ((79 : UInt8) :: t).toArray.size = _; simp
    rw [hp] at HPr HSz
    have HRp : Hid (∀ w, MIn w m a → Calls Tryd.prog 13 #[mV m a] w fun e w' => e = .returned (.string ⟨((79 :: t) : List UInt8).toArray⟩) ∧ Below w.heap.size w w') := fun w h => by
      have := rprint_any w m a h HS.out
      rw [hp] at this
      exact this
    clear hp
    go_wp2_with fail
    refine (HPr.out _ HX.out.mem HX.out.below HS.out).mono ?_
    rintro e w3 ⟨rfl, hb⟩
    replace HX : Hid (Bx W w3 W.heap.size m a) := HX.out.on hb
    clear y0 y1 y10 y2 y3 y4 y5 y6 y7 y8 y9
    clear hb
    go_wp2_with fail
    refine (HPa.out _ (79 :: t) HX.out.below (by simp; omega)).mono ?_
    rintro e w4 ⟨ht, hb⟩
    replace HX : Hid (Bx W w4 W.heap.size m a) := HX.out.on hb
    clear hb
    rcases ht with ht | ⟨hno, _⟩
    rotate_left
    · exact absurd HO.out (hno _)
    obtain ⟨n, a4, hof, rfl, hmi⟩ := ht
    obtain rfl : m = n := HO.out.unique hof
    clear hof
    have HY : Hid (Bx W (w4.alloc (.cells #[.int .i64 m.level, .int .i64 m.nodes, .int .i64 m.cycles, .int .i64 m.length, .int .i64 m.enable, .int .i64 m.unit, .int .i64 m.init, .int .u32 (m.ref : Int), .slice a4.s1 m.masters.length a4.c1, .slice a4.s2 m.messages.length a4.c2, .slice a4.s3 m.windows.length a4.c3] 27)) w4.heap.size m a4) := Bx.make HX.out.below hmi
    replace HX : Hid (Bx W (w4.alloc (.cells #[.int .i64 m.level, .int .i64 m.nodes, .int .i64 m.cycles, .int .i64 m.length, .int .i64 m.enable, .int .i64 m.unit, .int .i64 m.init, .int .u32 (m.ref : Int), .slice a4.s1 m.masters.length a4.c1, .slice a4.s2 m.messages.length a4.c2, .slice a4.s3 m.windows.length a4.c3] 27)) W.heap.size m a) := HX.out.al _
    dsimp only [mV, mCs]
    go_upto_region 7 with fail
    generalize (w4.alloc (.cells #[.int .i64 m.level, .int .i64 m.nodes, .int .i64 m.cycles, .int .i64 m.length, .int .i64 m.enable, .int .i64 m.unit, .int .i64 m.init, .int .u32 (m.ref : Int), .slice a4.s1 m.masters.length a4.c1, .slice a4.s2 m.messages.length a4.c2, .slice a4.s3 m.windows.length a4.c3] 27)) = v4 at HX HY ⊢
    clear hmi
    obtain ⟨y0, y1, y2, y3, y4, y5, y6, y7, y8, y9, y10⟩ := HX.out.row.mat
    go_wp2_with fail
    refine (HRp.out _ HX.out.mem).mono ?_
    rintro e w5 ⟨rfl, hb⟩
    replace HX : Hid (Bx W w5 W.heap.size m a) := HX.out.on hb
    replace HY : Hid (Bx W w5 w4.heap.size m a4) := HY.out.on hb
    clear y0 y1 y10 y2 y3 y4 y5 y6 y7 y8 y9
    clear hb
    obtain ⟨y0, y1, y2, y3, y4, y5, y6, y7, y8, y9, y10⟩ := HX.out.row.mat
    go_wp2_with fail
    refine (HSz.out _ HX.out.mem HX.out.below HS.out).mono ?_
    rintro e w6 ⟨rfl, hb⟩
    replace HX : Hid (Bx W w6 W.heap.size m a) := HX.out.on hb
    replace HY : Hid (Bx W w6 w4.heap.size m a4) := HY.out.on hb
    clear y0 y1 y10 y2 y3 y4 y5 y6 y7 y8 y9
    clear hb
    obtain ⟨y0, y1, y2, y3, y4, y5, y6, y7, y8, y9, y10⟩ := HX.out.row.mat
    obtain ⟨z0, z1, z2, z3, z4, z5, z6, z7, z8, z9, z10⟩ := HY.out.row.mat
    go_wp2_with fail
    refine (rsame_any _ m m a a4 HX.out.mem HY.out.mem HS.out HS.out).mono ?_
    rintro e w7 ⟨rfl, hb⟩
    replace HX : Hid (Bx W w7 W.heap.size m a) := HX.out.on hb
    replace HY : Hid (Bx W w7 w4.heap.size m a4) := HY.out.on hb
    clear y0 y1 y10 y2 y3 y4 y5 y6 y7 y8 y9 z0 z1 z10 z2 z3 z4 z5 z6 z7 z8 z9
    clear hb
    go_wp2
    go_ret
    exact ⟨rfl, HX.out.below⟩
end Go.Proofs.YtcdalfhmmipiaaaDoor.configTells
