/- ConfigReads: whatever bytes are a matrix just if they are that one's, for every text of at most 600 bytes (others are let by); no condition. -/
import Derived.Test.YtcdalfhmmipiaaaDoorP6
import Derived.ProofKit
import Derived.OpenShut
namespace Go.Proofs.YtcdalfhmmipiaaaDoor.configReads
open Go.ChangeShapes Go.WideShapes Go.ChangeAt Go.RowKit
set_option linter.unusedVariables false
variable {Q : World → Prop}
set_option maxRecDepth 100000 in
set_option maxHeartbeats 4000000 in
theorem walkA (hQ : ∀ w w', Q w → Below w.heap.size w w' → Q w') (S : ConfSpec Q) (b : ByteArray) (hb0 : b.size ≤ maxLen) (W : World) (hW : Q W) :
    Calls Tryd.prog 4 #[.string b] W fun e w' => e = .returned (.bool true) ∧ Below W.heap.size W w' := by
  have HQ : Hid (∀ w, Below W.heap.size W w → Q w) := fun w hb => hQ W w hW hb
  have HK : Hid (∀ w, Below W.heap.size W w → Calls Tryd.prog 9 #[] w fun e w' => e = .returned (.bool true) ∧ Below w.heap.size w w') := fun w hb => known13_any hQ S w (HQ.out _ hb)
  have HPa : Hid (∀ w b, Below W.heap.size W w → b.length ≤ 1000 → Calls Tryd.prog 12 #[.string ⟨b.toArray⟩] w fun e w' => Told b e w' ∧ Below w.heap.size w w') := fun w b h hl => S.parse w b (HQ.out _ h) hl
  have HPm : Hid (∀ w m a, MIn w m a → Below W.heap.size W w → Mx.is m = true → Calls Tryd.prog 11 #[mV m a] w fun e w' => e = .returned (.string ⟨(Pq.pr m).toArray⟩) ∧ Below w.heap.size w w') := fun w m a h hb hi => S.print w m a (HQ.out _ hb) h (Mx.small_is hi) (Mx.wf_is hi)
  obtain ⟨l, rfl⟩ : ∃ l : List UInt8, b = ⟨l.toArray⟩ := ⟨b.data.toList, by simp⟩
  have hsz : (⟨l.toArray⟩ : ByteArray).size = l.length := by show l.toArray.size = _; simp
  have hA : Hid (Below W.heap.size W W) := Below.refl _ _
  clear hQ hW hb0
  go_enter Tryd.func4, Tryd.ntmps4
  go_wp2_with fail
  refine (HK.out _ hA.out).mono ?_
  rintro e w1 ⟨rfl, hb⟩
  replace hA : Hid (Below W.heap.size W w1) := hA.out.trans (hb.mono hA.out.size)
  clear hb HK
  by_cases h6 : 600 < l.length
  · have h6i : (600 : Int) < (l.length : Int) := by omega
    go_wp2
    go_ret
    exact ⟨rfl, hA.out⟩
  have h6i : ¬ ((600 : Int) < (l.length : Int)) := by omega
  have H6 : Hid (l.length ≤ 1000) := by show _ ≤ _; omega
  clear h6
  go_wp2_with fail
  refine (HPa.out _ l hA.out H6.out).mono ?_
  rintro e w2 ⟨ht, hb⟩
  replace hA : Hid (Below W.heap.size W w2) := hA.out.trans (hb.mono hA.out.size)
  clear hb
  clear hsz h6i
  rcases ht with ⟨m, a2, hof, rfl, hmi⟩ | ⟨hno, a2, rfl, hmi⟩
  · have HX : Hid (Bx W (w2.alloc (.cells #[.int .i64 m.level, .int .i64 m.nodes, .int .i64 m.cycles, .int .i64 m.length, .int .i64 m.enable, .int .i64 m.unit, .int .i64 m.init, .int .u32 (m.ref : Int), .slice a2.s1 m.masters.length a2.c1, .slice a2.s2 m.messages.length a2.c2, .slice a2.s3 m.windows.length a2.c3] 27)) w2.heap.size m a2) := Bx.make hA.out hmi
    replace hA : Hid (Below W.heap.size W (w2.alloc (.cells #[.int .i64 m.level, .int .i64 m.nodes, .int .i64 m.cycles, .int .i64 m.length, .int .i64 m.enable, .int .i64 m.unit, .int .i64 m.init, .int .u32 (m.ref : Int), .slice a2.s1 m.masters.length a2.c1, .slice a2.s2 m.messages.length a2.c2, .slice a2.s3 m.windows.length a2.c3] 27))) := hA.out.alloc hA.out.size _
    dsimp only [mV, mCs]
    go_upto_region 6 with fail
    generalize (w2.alloc (.cells #[.int .i64 m.level, .int .i64 m.nodes, .int .i64 m.cycles, .int .i64 m.length, .int .i64 m.enable, .int .i64 m.unit, .int .i64 m.init, .int .u32 (m.ref : Int), .slice a2.s1 m.masters.length a2.c1, .slice a2.s2 m.messages.length a2.c2, .slice a2.s3 m.windows.length a2.c3] 27)) = v2 at HX hA ⊢
    clear hmi
    go_wp2_with fail
    refine (rparse_any _ l H6.out).mono ?_
    rintro e w3 ⟨ht, hb⟩
    replace hA : Hid (Below W.heap.size W w3) := hA.out.trans (hb.mono hA.out.size)
    replace HX : Hid (Bx W w3 w2.heap.size m a2) := HX.out.on hb
    clear hb
    rcases ht with ht | ⟨hno, _⟩
    rotate_left
    · exact absurd hof (hno _)
    obtain ⟨n, a3, hof3, rfl, hmi⟩ := ht
    obtain rfl : m = n := hof.unique hof3
    have HI : Hid (Mx.is m = true) := hof.1
    have hp : Pq.pr m = l := hof.2
    clear hof hof3
    have HY : Hid (Bx W (w3.alloc (.cells #[.int .i64 m.level, .int .i64 m.nodes, .int .i64 m.cycles, .int .i64 m.length, .int .i64 m.enable, .int .i64 m.unit, .int .i64 m.init, .int .u32 (m.ref : Int), .slice a3.s1 m.masters.length a3.c1, .slice a3.s2 m.messages.length a3.c2, .slice a3.s3 m.windows.length a3.c3] 27)) w3.heap.size m a3) := Bx.make hA.out hmi
    replace HX : Hid (Bx W (w3.alloc (.cells #[.int .i64 m.level, .int .i64 m.nodes, .int .i64 m.cycles, .int .i64 m.length, .int .i64 m.enable, .int .i64 m.unit, .int .i64 m.init, .int .u32 (m.ref : Int), .slice a3.s1 m.masters.length a3.c1, .slice a3.s2 m.messages.length a3.c2, .slice a3.s3 m.windows.length a3.c3] 27)) w2.heap.size m a2) := HX.out.al _
    replace hA : Hid (Below W.heap.size W (w3.alloc (.cells #[.int .i64 m.level, .int .i64 m.nodes, .int .i64 m.cycles, .int .i64 m.length, .int .i64 m.enable, .int .i64 m.unit, .int .i64 m.init, .int .u32 (m.ref : Int), .slice a3.s1 m.masters.length a3.c1, .slice a3.s2 m.messages.length a3.c2, .slice a3.s3 m.windows.length a3.c3] 27))) := hA.out.alloc hA.out.size _
    dsimp only [mV, mCs]
    go_upto_region 7 with fail
    generalize (w3.alloc (.cells #[.int .i64 m.level, .int .i64 m.nodes, .int .i64 m.cycles, .int .i64 m.length, .int .i64 m.enable, .int .i64 m.unit, .int .i64 m.init, .int .u32 (m.ref : Int), .slice a3.s1 m.masters.length a3.c1, .slice a3.s2 m.messages.length a3.c2, .slice a3.s3 m.windows.length a3.c3] 27)) = v3 at HX HY hA ⊢
    clear hmi
    obtain ⟨x0, x1, x2, x3, x4, x5, x6, x7, x8, x9, x10⟩ := HX.out.row.mat
    obtain ⟨y0, y1, y2, y3, y4, y5, y6, y7, y8, y9, y10⟩ := HY.out.row.mat
    go_wp2_with fail
    refine (rsame_any _ m m a2 a3 HX.out.mem HY.out.mem (Mx.small_is HI.out) (Mx.small_is HI.out)).mono ?_
    rintro e w4 ⟨rfl, hb⟩
    replace hA : Hid (Below W.heap.size W w4) := hA.out.trans (hb.mono hA.out.size)
    replace HX : Hid (Bx W w4 w2.heap.size m a2) := HX.out.on hb
    replace HY : Hid (Bx W w4 w3.heap.size m a3) := HY.out.on hb
    clear x0 x1 x10 x2 x3 x4 x5 x6 x7 x8 x9 y0 y1 y10 y2 y3 y4 y5 y6 y7 y8 y9
    clear hb
    obtain ⟨x0, x1, x2, x3, x4, x5, x6, x7, x8, x9, x10⟩ := HX.out.row.mat
    go_wp2_with fail
    refine (HPm.out _ m a2 HX.out.mem HX.out.below HI.out).mono ?_
    rintro e w5 ⟨rfl, hb⟩
    replace hA : Hid (Below W.heap.size W w5) := hA.out.trans (hb.mono hA.out.size)
    replace HX : Hid (Bx W w5 w2.heap.size m a2) := HX.out.on hb
    replace HY : Hid (Bx W w5 w3.heap.size m a3) := HY.out.on hb
    clear x0 x1 x10 x2 x3 x4 x5 x6 x7 x8 x9
    clear hb
    rw [hp]
    go_wp2
    go_ret
    exact ⟨rfl, HX.out.below⟩
  · have HX : Hid (Bx W (w2.alloc (.cells #[.int .i64 Mx.nil0.level, .int .i64 Mx.nil0.nodes, .int .i64 Mx.nil0.cycles, .int .i64 Mx.nil0.length, .int .i64 Mx.nil0.enable, .int .i64 Mx.nil0.unit, .int .i64 Mx.nil0.init, .int .u32 (Mx.nil0.ref : Int), .slice a2.s1 Mx.nil0.masters.length a2.c1, .slice a2.s2 Mx.nil0.messages.length a2.c2, .slice a2.s3 Mx.nil0.windows.length a2.c3] 27)) w2.heap.size Mx.nil0 a2) := Bx.make hA.out hmi
    replace hA : Hid (Below W.heap.size W (w2.alloc (.cells #[.int .i64 Mx.nil0.level, .int .i64 Mx.nil0.nodes, .int .i64 Mx.nil0.cycles, .int .i64 Mx.nil0.length, .int .i64 Mx.nil0.enable, .int .i64 Mx.nil0.unit, .int .i64 Mx.nil0.init, .int .u32 (Mx.nil0.ref : Int), .slice a2.s1 Mx.nil0.masters.length a2.c1, .slice a2.s2 Mx.nil0.messages.length a2.c2, .slice a2.s3 Mx.nil0.windows.length a2.c3] 27))) := hA.out.alloc hA.out.size _
    dsimp only [mV, mCs]
    go_upto_region 6 with fail
    generalize (w2.alloc (.cells #[.int .i64 Mx.nil0.level, .int .i64 Mx.nil0.nodes, .int .i64 Mx.nil0.cycles, .int .i64 Mx.nil0.length, .int .i64 Mx.nil0.enable, .int .i64 Mx.nil0.unit, .int .i64 Mx.nil0.init, .int .u32 (Mx.nil0.ref : Int), .slice a2.s1 Mx.nil0.masters.length a2.c1, .slice a2.s2 Mx.nil0.messages.length a2.c2, .slice a2.s3 Mx.nil0.windows.length a2.c3] 27)) = v2 at HX hA ⊢
    clear hmi
    go_wp2_with fail
    refine (rparse_any _ l H6.out).mono ?_
    rintro e w3 ⟨ht, hb⟩
    replace hA : Hid (Below W.heap.size W w3) := hA.out.trans (hb.mono hA.out.size)
    replace HX : Hid (Bx W w3 w2.heap.size Mx.nil0 a2) := HX.out.on hb
    clear hb
    rcases ht with ⟨n, a3, hof3, _⟩ | ⟨_, rfl⟩
    · exact absurd hof3 (hno _)
    clear hno
    have hmi := min_nil w3
    have HY : Hid (Bx W (w3.alloc (.cells #[.int .i64 Mx.nil0.level, .int .i64 Mx.nil0.nodes, .int .i64 Mx.nil0.cycles, .int .i64 Mx.nil0.length, .int .i64 Mx.nil0.enable, .int .i64 Mx.nil0.unit, .int .i64 Mx.nil0.init, .int .u32 (Mx.nil0.ref : Int), .slice Ma.nil0.s1 Mx.nil0.masters.length Ma.nil0.c1, .slice Ma.nil0.s2 Mx.nil0.messages.length Ma.nil0.c2, .slice Ma.nil0.s3 Mx.nil0.windows.length Ma.nil0.c3] 27)) w3.heap.size Mx.nil0 Ma.nil0) := Bx.make hA.out hmi
    replace HX : Hid (Bx W (w3.alloc (.cells #[.int .i64 Mx.nil0.level, .int .i64 Mx.nil0.nodes, .int .i64 Mx.nil0.cycles, .int .i64 Mx.nil0.length, .int .i64 Mx.nil0.enable, .int .i64 Mx.nil0.unit, .int .i64 Mx.nil0.init, .int .u32 (Mx.nil0.ref : Int), .slice Ma.nil0.s1 Mx.nil0.masters.length Ma.nil0.c1, .slice Ma.nil0.s2 Mx.nil0.messages.length Ma.nil0.c2, .slice Ma.nil0.s3 Mx.nil0.windows.length Ma.nil0.c3] 27)) w2.heap.size Mx.nil0 a2) := HX.out.al _
    replace hA : Hid (Below W.heap.size W (w3.alloc (.cells #[.int .i64 Mx.nil0.level, .int .i64 Mx.nil0.nodes, .int .i64 Mx.nil0.cycles, .int .i64 Mx.nil0.length, .int .i64 Mx.nil0.enable, .int .i64 Mx.nil0.unit, .int .i64 Mx.nil0.init, .int .u32 (Mx.nil0.ref : Int), .slice Ma.nil0.s1 Mx.nil0.masters.length Ma.nil0.c1, .slice Ma.nil0.s2 Mx.nil0.messages.length Ma.nil0.c2, .slice Ma.nil0.s3 Mx.nil0.windows.length Ma.nil0.c3] 27))) := hA.out.alloc hA.out.size _
    dsimp only [mV, mCs]
    go_upto_region 7 with fail
    generalize (w3.alloc (.cells #[.int .i64 Mx.nil0.level, .int .i64 Mx.nil0.nodes, .int .i64 Mx.nil0.cycles, .int .i64 Mx.nil0.length, .int .i64 Mx.nil0.enable, .int .i64 Mx.nil0.unit, .int .i64 Mx.nil0.init, .int .u32 (Mx.nil0.ref : Int), .slice Ma.nil0.s1 Mx.nil0.masters.length Ma.nil0.c1, .slice Ma.nil0.s2 Mx.nil0.messages.length Ma.nil0.c2, .slice Ma.nil0.s3 Mx.nil0.windows.length Ma.nil0.c3] 27)) = v3 at HX HY hA ⊢
    clear hmi
    obtain ⟨x0, x1, x2, x3, x4, x5, x6, x7, x8, x9, x10⟩ := HX.out.row.mat
    obtain ⟨y0, y1, y2, y3, y4, y5, y6, y7, y8, y9, y10⟩ := HY.out.row.mat
    go_wp2_with fail
    refine (rsame_any _ Mx.nil0 Mx.nil0 a2 Ma.nil0 HX.out.mem HY.out.mem Mx.small_nil Mx.small_nil).mono ?_
    rintro e w4 ⟨rfl, hb⟩
    replace hA : Hid (Below W.heap.size W w4) := hA.out.trans (hb.mono hA.out.size)
    replace HX : Hid (Bx W w4 w2.heap.size Mx.nil0 a2) := HX.out.on hb
    replace HY : Hid (Bx W w4 w3.heap.size Mx.nil0 Ma.nil0) := HY.out.on hb
    clear x0 x1 x10 x2 x3 x4 x5 x6 x7 x8 x9 y0 y1 y10 y2 y3 y4 y5 y6 y7 y8 y9
    clear hb
    go_wp2
    go_ret
    exact ⟨rfl, HX.out.below⟩
end Go.Proofs.YtcdalfhmmipiaaaDoor.configReads
