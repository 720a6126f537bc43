/- MatrixTells: of every two matrices of few entries whether they are any, the same; of frames, messages, nodes where they are; every data of at most 20 bytes (others are let by); no condition. -/
import Derived.Test.YthknkolnalobjaaDoorB4
import Derived.Test.YthknkolnalobjaaDoorB2
import Derived.Test.YthknkolnalobjaaDoorB3
import Derived.ProofKit
import Derived.OpenShut
namespace Go.Proofs.YthknkolnalobjaaDoor.matrixTells
open Go.ChangeShapes Go.WideShapes Go.ChangeAt Go.RowKit
set_option linter.unusedVariables false
variable {Q : World → Prop}
/-- Both matrices and the frame where they were copied to. -/
structure T12 (W w : World) (m n : Mx.M) (a b : Ma) (p6 p7 p8 : Nat) (fc : Array Value) : Prop where
  below : Below W.heap.size W w
  ra : RowT 27 w p6 (mCs m a)
  rb : RowT 27 w p7 (mCs n b)
  rf : RowT 29 w p8 fc
  ia : MIn w m a
  ib : MIn w n b
theorem T12.on {W w w' : World} {m n : Mx.M} {a b : Ma} {p6 p7 p8 : Nat} {fc : Array Value} (h : T12 W w m n a b p6 p7 p8 fc) (hb : Below w.heap.size w w') : T12 W w' m n a b p6 p7 p8 fc :=
  ⟨h.below.trans (hb.mono h.below.size), h.ra.on hb, h.rb.on hb, h.rf.on hb, h.ia.on hb, h.ib.on hb⟩
/-- All that is read ahead of what is told. -/
structure KT (W w : World) (m n : Mx.M) (a b a' : Ma) (p6 p7 p8 px py pc : Nat) (fc fx : Array Value) : Prop where
  t : T12 W w m n a b p6 p7 p8 fc
  mc : MIn w m a'
  rc : RowT 27 w pc (mCs m a')
  rx : RowT 29 w px fx
  ry : RowT 29 w py fx
theorem KT.on {W w w' : World} {m n : Mx.M} {a b a' : Ma} {p6 p7 p8 px py pc : Nat} {fc fx : Array Value} (h : KT W w m n a b a' p6 p7 p8 px py pc fc fx) (hb : Below w.heap.size w w') : KT W w' m n a b a' p6 p7 p8 px py pc fc fx :=
  ⟨h.t.on hb, h.mc.on hb, h.rc.on hb, h.rx.on hb, h.ry.on hb⟩
def CT (w : World) (m n : Mx.M) (a b a' : Ma) (p6 p7 p8 px py pc : Nat) (f0 f1 f2 f3 x0 x1 x2 x3 : Value) : Prop :=
  (w.cell? ⟨p6, 0, none⟩ = some (.int .i64 m.level) ∧ w.cell? ⟨p6, 1, none⟩ = some (.int .i64 m.nodes) ∧ w.cell? ⟨p6, 2, none⟩ = some (.int .i64 m.cycles) ∧ w.cell? ⟨p6, 3, none⟩ = some (.int .i64 m.length) ∧ w.cell? ⟨p6, 4, none⟩ = some (.int .i64 m.enable) ∧ w.cell? ⟨p6, 5, none⟩ = some (.int .i64 m.unit) ∧ w.cell? ⟨p6, 6, none⟩ = some (.int .i64 m.init) ∧ w.cell? ⟨p6, 7, none⟩ = some (.int .u32 (m.ref : Int)) ∧ w.cell? ⟨p6, 8, none⟩ = some (.slice a.s1 m.masters.length a.c1) ∧ w.cell? ⟨p6, 9, none⟩ = some (.slice a.s2 m.messages.length a.c2) ∧ w.cell? ⟨p6, 10, none⟩ = some (.slice a.s3 m.windows.length a.c3)) ∧ (w.cell? ⟨p7, 0, none⟩ = some (.int .i64 n.level) ∧ w.cell? ⟨p7, 1, none⟩ = some (.int .i64 n.nodes) ∧ w.cell? ⟨p7, 2, none⟩ = some (.int .i64 n.cycles) ∧ w.cell? ⟨p7, 3, none⟩ = some (.int .i64 n.length) ∧ w.cell? ⟨p7, 4, none⟩ = some (.int .i64 n.enable) ∧ w.cell? ⟨p7, 5, none⟩ = some (.int .i64 n.unit) ∧ w.cell? ⟨p7, 6, none⟩ = some (.int .i64 n.init) ∧ w.cell? ⟨p7, 7, none⟩ = some (.int .u32 (n.ref : Int)) ∧ w.cell? ⟨p7, 8, none⟩ = some (.slice b.s1 n.masters.length b.c1) ∧ w.cell? ⟨p7, 9, none⟩ = some (.slice b.s2 n.messages.length b.c2) ∧ w.cell? ⟨p7, 10, none⟩ = some (.slice b.s3 n.windows.length b.c3)) ∧ (w.cell? ⟨pc, 0, none⟩ = some (.int .i64 m.level) ∧ w.cell? ⟨pc, 1, none⟩ = some (.int .i64 m.nodes) ∧ w.cell? ⟨pc, 2, none⟩ = some (.int .i64 m.cycles) ∧ w.cell? ⟨pc, 3, none⟩ = some (.int .i64 m.length) ∧ w.cell? ⟨pc, 4, none⟩ = some (.int .i64 m.enable) ∧ w.cell? ⟨pc, 5, none⟩ = some (.int .i64 m.unit) ∧ w.cell? ⟨pc, 6, none⟩ = some (.int .i64 m.init) ∧ w.cell? ⟨pc, 7, none⟩ = some (.int .u32 (m.ref : Int)) ∧ w.cell? ⟨pc, 8, none⟩ = some (.slice a'.s1 m.masters.length a'.c1) ∧ w.cell? ⟨pc, 9, none⟩ = some (.slice a'.s2 m.messages.length a'.c2) ∧ w.cell? ⟨pc, 10, none⟩ = some (.slice a'.s3 m.windows.length a'.c3)) ∧ (w.cell? ⟨p8, 0, none⟩ = some (f0) ∧ w.cell? ⟨p8, 1, none⟩ = some (f1) ∧ w.cell? ⟨p8, 2, none⟩ = some (f2) ∧ w.cell? ⟨p8, 3, none⟩ = some (f3)) ∧ (w.cell? ⟨px, 0, none⟩ = some (x0) ∧ w.cell? ⟨px, 1, none⟩ = some (x1) ∧ w.cell? ⟨px, 2, none⟩ = some (x2) ∧ w.cell? ⟨px, 3, none⟩ = some (x3)) ∧ (w.cell? ⟨py, 0, none⟩ = some (x0) ∧ w.cell? ⟨py, 1, none⟩ = some (x1) ∧ w.cell? ⟨py, 2, none⟩ = some (x2) ∧ w.cell? ⟨py, 3, none⟩ = some (x3))
theorem KT.cells {W w : World} {m n : Mx.M} {a b a' : Ma} {p6 p7 p8 px py pc : Nat} {f0 f1 f2 f3 x0 x1 x2 x3 : Value} (h : KT W w m n a b a' p6 p7 p8 px py pc #[f0, f1, f2, f3] #[x0, x1, x2, x3]) : CT w m n a b a' p6 p7 p8 px py pc f0 f1 f2 f3 x0 x1 x2 x3 :=
  ⟨h.t.ra.mat, h.t.rb.mat, h.rc.mat, ⟨h.t.rf.c 0 _ rfl, h.t.rf.c 1 _ rfl, h.t.rf.c 2 _ rfl, h.t.rf.c 3 _ rfl⟩, ⟨h.rx.c 0 _ rfl, h.rx.c 1 _ rfl, h.rx.c 2 _ rfl, h.rx.c 3 _ rfl⟩, ⟨h.ry.c 0 _ rfl, h.ry.c 1 _ rfl, h.ry.c 2 _ rfl, h.ry.c 3 _ rfl⟩⟩
set_option maxRecDepth 100000 in
set_option maxHeartbeats 16000000 in
theorem walkA (hQ : ∀ w w', Q w → Below w.heap.size w w' → Q w') (S : MatSpec Q) (m : Mx.M) (a : Ma) {W0 : World} (hm : MIn W0 m a) (hwm : Mx.Wf m) (n : Mx.M) (b : Ma) (hn : MIn W0 n b) (hwn : Mx.Wf n) (ext : Bool) (id : Nat) (rtr : Bool) (fd : ByteArray) (hid : id < 4294967296) (msg : Int) (hmsg : (Lit.int .i64 msg).wf = true) (who : Int) (hwho : (Lit.int .i64 who).wf = true) (d : ByteArray) (W : World) (hw0 : W = W0) (hW : Q W) :
    Calls Tryd.prog 3 #[mV m a, mV n b, .agg #[.bool ext, .int .u32 (id : Int), .bool rtr, .string fd], .int .i64 msg, .int .i64 who, .string d] W fun e w' => e = .returned (.bool true) ∧ Below W.heap.size W w' := by
  subst hw0
  have HQ : Hid (∀ w, Below W.heap.size W w → Q w) := fun w hb => hQ W w hW hb
  have HK : Hid (∀ w, Below W.heap.size W w → Calls Tryd.prog 8 #[] w fun e w' => e = .returned (.bool true) ∧ Below w.heap.size w w') := fun w hb => known12_any hQ S w (HQ.out _ hb)
  have hs1 : (W.alloc (.cells (mCs m a) 27)).heap.size = W.heap.size + 1 := by simp
  have hs2 : ((W.alloc (.cells (mCs m a) 27)).alloc (.cells (mCs n b) 27)).heap.size = W.heap.size + 1 + 1 := by simp
  have HT : Hid (T12 W (((W.alloc (.cells (mCs m a) 27)).alloc (.cells (mCs n b) 27)).alloc (.cells #[.bool ext, .int .u32 (id : Int), .bool rtr, .string fd] 29)) m n a b W.heap.size (W.heap.size + 1) (W.heap.size + 1 + 1) #[.bool ext, .int .u32 (id : Int), .bool rtr, .string fd]) := by
    have b1 : Below W.heap.size W (W.alloc (.cells (mCs m a) 27)) := (Below.refl _ _).alloc (Nat.le_refl _) _
    have b2 : Below (W.alloc (.cells (mCs m a) 27)).heap.size (W.alloc (.cells (mCs m a) 27)) ((W.alloc (.cells (mCs m a) 27)).alloc (.cells (mCs n b) 27)) := (Below.refl _ _).alloc (Nat.le_refl _) _
    have b3 : Below ((W.alloc (.cells (mCs m a) 27)).alloc (.cells (mCs n b) 27)).heap.size ((W.alloc (.cells (mCs m a) 27)).alloc (.cells (mCs n b) 27)) (((W.alloc (.cells (mCs m a) 27)).alloc (.cells (mCs n b) 27)).alloc (.cells #[.bool ext, .int .u32 (id : Int), .bool rtr, .string fd] 29)) := (Below.refl _ _).alloc (Nat.le_refl _) _
    have r1 : RowT 27 (W.alloc (.cells (mCs m a) 27)) W.heap.size (mCs m a) := RowT.new _ _ _
    have r2 : RowT 27 ((W.alloc (.cells (mCs m a) 27)).alloc (.cells (mCs n b) 27)) (W.alloc (.cells (mCs m a) 27)).heap.size (mCs n b) := RowT.new _ _ _
    have r3 : RowT 29 (((W.alloc (.cells (mCs m a) 27)).alloc (.cells (mCs n b) 27)).alloc (.cells #[.bool ext, .int .u32 (id : Int), .bool rtr, .string fd] 29)) ((W.alloc (.cells (mCs m a) 27)).alloc (.cells (mCs n b) 27)).heap.size #[.bool ext, .int .u32 (id : Int), .bool rtr, .string fd] := RowT.new _ _ _
    rw [hs1] at r2
    rw [hs2] at r3
    have bb : Below W.heap.size W (((W.alloc (.cells (mCs m a) 27)).alloc (.cells (mCs n b) 27)).alloc (.cells #[.bool ext, .int .u32 (id : Int), .bool rtr, .string fd] 29)) := (b1.trans (b2.mono b1.size)).trans (b3.mono (Nat.le_trans b1.size b2.size))
    exact ⟨bb, (r1.on b2).on b3, r2.on b3, r3, ((hm.on b1).on b2).on b3, ((hn.on b1).on b2).on b3⟩
  have HW : Hid (Mx.Wf m ∧ Mx.Wf n ∧ id < 4294967296 ∧ (Lit.int .i64 msg).wf = true ∧ (Lit.int .i64 who).wf = true) := ⟨hwm, hwn, hid, hmsg, hwho⟩
  have HY : Hid (∀ (w : World) p (m : Mx.M) (a : Ma), RowT 27 w p (mCs m a) → (w.cell? ⟨p, 0, none⟩ = some (.int .i64 m.level) ∧ w.cell? ⟨p, 1, none⟩ = some (.int .i64 m.nodes) ∧ w.cell? ⟨p, 2, none⟩ = some (.int .i64 m.cycles) ∧ w.cell? ⟨p, 3, none⟩ = some (.int .i64 m.length) ∧ w.cell? ⟨p, 4, none⟩ = some (.int .i64 m.enable) ∧ w.cell? ⟨p, 5, none⟩ = some (.int .i64 m.unit) ∧ w.cell? ⟨p, 6, none⟩ = some (.int .i64 m.init) ∧ w.cell? ⟨p, 7, none⟩ = some (.int .u32 (m.ref : Int)) ∧ w.cell? ⟨p, 8, none⟩ = some (.slice a.s1 m.masters.length a.c1) ∧ w.cell? ⟨p, 9, none⟩ = some (.slice a.s2 m.messages.length a.c2) ∧ w.cell? ⟨p, 10, none⟩ = some (.slice a.s3 m.windows.length a.c3))) := fun w p m a h => h.mat
  show Calls _ _ #[.agg (mCs m a), .agg (mCs n b), _, _, _, _] _ _
  generalize mCs m a = cs at HT ⊢
  generalize mCs n b = ds at HT ⊢
  clear hm hn hwm hwn hid hmsg hwho hs1 hs2 hW hQ
  go_enter Tryd.func3, Tryd.ntmps3
  go_wp2_with fail
  generalize ((W.alloc (.cells cs 27)).alloc (.cells ds 27)).alloc (.cells #[.bool ext, .int .u32 (id : Int), .bool rtr, .string fd] 29) = wT at HT ⊢
  refine (HK.out _ HT.out.below).mono ?_
  rintro e w1 ⟨rfl, hb1⟩
  replace HT : Hid (T12 W w1 m n a b W.heap.size (W.heap.size + 1) (W.heap.size + 1 + 1) #[.bool ext, .int .u32 (id : Int), .bool rtr, .string fd]) := HT.out.on hb1
  clear hb1 HK
  skip
  obtain ⟨y0, y1, y2, y3, y4, y5, y6, y7, y8, y9, y10⟩ := HY.out w1 W.heap.size m a HT.out.ra
  obtain ⟨z0, z1, z2, z3, z4, z5, z6, z7, z8, z9, z10⟩ := HY.out w1 (W.heap.size + 1) n b HT.out.rb
  go_wp2_with fail
  refine (few12_any w1 m a).mono ?_
  rintro e w2 ⟨rfl, hb2⟩
  replace HT : Hid (T12 W w2 m n a b W.heap.size (W.heap.size + 1) (W.heap.size + 1 + 1) #[.bool ext, .int .u32 (id : Int), .bool rtr, .string fd]) := HT.out.on hb2
  clear hb2
  clear y0 y1 y2 y3 y4 y5 y6 y7 y8 y9 y10 z0 z1 z2 z3 z4 z5 z6 z7 z8 z9 z10
  obtain ⟨y0, y1, y2, y3, y4, y5, y6, y7, y8, y9, y10⟩ := HY.out w2 W.heap.size m a HT.out.ra
  obtain ⟨z0, z1, z2, z3, z4, z5, z6, z7, z8, z9, z10⟩ := HY.out w2 (W.heap.size + 1) n b HT.out.rb
  cases hfm : Mx.few m
  · go_wp2
    go_ret
    exact ⟨rfl, HT.out.below⟩
  go_wp2_with fail
  refine (few12_any w2 n b).mono ?_
  rintro e w3 ⟨rfl, hb3⟩
  replace HT : Hid (T12 W w3 m n a b W.heap.size (W.heap.size + 1) (W.heap.size + 1 + 1) #[.bool ext, .int .u32 (id : Int), .bool rtr, .string fd]) := HT.out.on hb3
  clear hb3
  clear y0 y1 y2 y3 y4 y5 y6 y7 y8 y9 y10 z0 z1 z2 z3 z4 z5 z6 z7 z8 z9 z10
  obtain ⟨y0, y1, y2, y3, y4, y5, y6, y7, y8, y9, y10⟩ := HY.out w3 W.heap.size m a HT.out.ra
  obtain ⟨z0, z1, z2, z3, z4, z5, z6, z7, z8, z9, z10⟩ := HY.out w3 (W.heap.size + 1) n b HT.out.rb
  cases hfn : Mx.few n
  · go_wp2
    go_ret
    exact ⟨rfl, HT.out.below⟩
  by_cases h20 : 20 < d.size
  · have h20i : (20 : Int) < (d.size : Int) := by omega
    go_wp2
    go_ret
    exact ⟨rfl, HT.out.below⟩
  have h20i : ¬ ((20 : Int) < (d.size : Int)) := by omega
  have HS : Hid (Mx.Small m ∧ Mx.Small n) := ⟨Mx.few_small hfm, Mx.few_small hfn⟩
  have HD : Hid (d.size ≤ 1000) := by show _ ≤ _; omega
  clear hfm hfn
  have HF1 : Hid (∀ w', T12 W w' m n a b W.heap.size (W.heap.size + 1) (W.heap.size + 1 + 1) #[.bool ext, .int .u32 (id : Int), .bool rtr, .string fd] → Calls Tryd.prog 10 #[.agg #[.int .i64 m.level, .int .i64 m.nodes, .int .i64 m.cycles, .int .i64 m.length, .int .i64 m.enable, .int .i64 m.unit, .int .i64 m.init, .int .u32 (m.ref : Int), .slice a.s1 m.masters.length a.c1, .slice a.s2 m.messages.length a.c2, .slice a.s3 m.windows.length a.c3], .int .i64 msg, .string d] w' fun e w'' => e = .returned (fVal (Mx.fid m msg d.size) d) ∧ Below w'.heap.size w' w'') := fun w' h => S.frame w' m a msg d (HQ.out _ h.below) h.ia HS.out.1 HW.out.1 HW.out.2.2.2.1 HD.out
  have HF2 : Hid (∀ w', T12 W w' m n a b W.heap.size (W.heap.size + 1) (W.heap.size + 1 + 1) #[.bool ext, .int .u32 (id : Int), .bool rtr, .string fd] → Calls Tryd.prog 11 #[.agg #[.int .i64 m.level, .int .i64 m.nodes, .int .i64 m.cycles, .int .i64 m.length, .int .i64 m.enable, .int .i64 m.unit, .int .i64 m.init, .int .u32 (m.ref : Int), .slice a.s1 m.masters.length a.c1, .slice a.s2 m.messages.length a.c2, .slice a.s3 m.windows.length a.c3], .int .i64 msg, .string d] w' fun e w'' => e = .returned (fVal (Mx.fid m msg d.size) d) ∧ Below w'.heap.size w' w'') := fun w' h => rframe_any w' m a msg d h.ia HS.out.1
  have HCp : Hid (∀ w', T12 W w' m n a b W.heap.size (W.heap.size + 1) (W.heap.size + 1 + 1) #[.bool ext, .int .u32 (id : Int), .bool rtr, .string fd] → Calls Tryd.prog 12 #[.agg #[.int .i64 m.level, .int .i64 m.nodes, .int .i64 m.cycles, .int .i64 m.length, .int .i64 m.enable, .int .i64 m.unit, .int .i64 m.init, .int .u32 (m.ref : Int), .slice a.s1 m.masters.length a.c1, .slice a.s2 m.messages.length a.c2, .slice a.s3 m.windows.length a.c3]] w' fun e w'' => ∃ a', e = .returned (mV m a') ∧ MIn w'' m a' ∧ Below w'.heap.size w' w'') := fun w' h => (S.copy w' m a (HQ.out _ h.below) h.ia HS.out.1 HW.out.1).mono fun e w'' ⟨a', he, hm', _, hb⟩ => ⟨a', he, hm', hb⟩
  have HI1 : Hid (∀ w', T12 W w' m n a b W.heap.size (W.heap.size + 1) (W.heap.size + 1 + 1) #[.bool ext, .int .u32 (id : Int), .bool rtr, .string fd] → Calls Tryd.prog 13 #[.agg #[.int .i64 m.level, .int .i64 m.nodes, .int .i64 m.cycles, .int .i64 m.length, .int .i64 m.enable, .int .i64 m.unit, .int .i64 m.init, .int .u32 (m.ref : Int), .slice a.s1 m.masters.length a.c1, .slice a.s2 m.messages.length a.c2, .slice a.s3 m.windows.length a.c3]] w' fun e w'' => e = .returned (.bool (Mx.is m)) ∧ Below w'.heap.size w' w'') := fun w' h => S.is w' m a (HQ.out _ h.below) h.ia HS.out.1 HW.out.1
  have HI2 : Hid (∀ w', T12 W w' m n a b W.heap.size (W.heap.size + 1) (W.heap.size + 1 + 1) #[.bool ext, .int .u32 (id : Int), .bool rtr, .string fd] → Calls Tryd.prog 14 #[.agg #[.int .i64 m.level, .int .i64 m.nodes, .int .i64 m.cycles, .int .i64 m.length, .int .i64 m.enable, .int .i64 m.unit, .int .i64 m.init, .int .u32 (m.ref : Int), .slice a.s1 m.masters.length a.c1, .slice a.s2 m.messages.length a.c2, .slice a.s3 m.windows.length a.c3]] w' fun e w'' => e = .returned (.bool (Mx.is m)) ∧ Below w'.heap.size w' w'') := fun w' h => ris_any w' m a h.ia HS.out.1
  have HS1 : Hid (∀ w', T12 W w' m n a b W.heap.size (W.heap.size + 1) (W.heap.size + 1 + 1) #[.bool ext, .int .u32 (id : Int), .bool rtr, .string fd] → Calls Tryd.prog 15 #[.agg #[.int .i64 m.level, .int .i64 m.nodes, .int .i64 m.cycles, .int .i64 m.length, .int .i64 m.enable, .int .i64 m.unit, .int .i64 m.init, .int .u32 (m.ref : Int), .slice a.s1 m.masters.length a.c1, .slice a.s2 m.messages.length a.c2, .slice a.s3 m.windows.length a.c3], .agg #[.int .i64 n.level, .int .i64 n.nodes, .int .i64 n.cycles, .int .i64 n.length, .int .i64 n.enable, .int .i64 n.unit, .int .i64 n.init, .int .u32 (n.ref : Int), .slice b.s1 n.masters.length b.c1, .slice b.s2 n.messages.length b.c2, .slice b.s3 n.windows.length b.c3]] w' fun e w'' => e = .returned (.bool (decide (m = n))) ∧ Below w'.heap.size w' w'') := fun w' h => S.same w' m n a b (HQ.out _ h.below) h.ia h.ib HS.out.1 HS.out.2 HW.out.1 HW.out.2.1
  have HS2 : Hid (∀ w', T12 W w' m n a b W.heap.size (W.heap.size + 1) (W.heap.size + 1 + 1) #[.bool ext, .int .u32 (id : Int), .bool rtr, .string fd] → Calls Tryd.prog 16 #[.agg #[.int .i64 m.level, .int .i64 m.nodes, .int .i64 m.cycles, .int .i64 m.length, .int .i64 m.enable, .int .i64 m.unit, .int .i64 m.init, .int .u32 (m.ref : Int), .slice a.s1 m.masters.length a.c1, .slice a.s2 m.messages.length a.c2, .slice a.s3 m.windows.length a.c3], .agg #[.int .i64 n.level, .int .i64 n.nodes, .int .i64 n.cycles, .int .i64 n.length, .int .i64 n.enable, .int .i64 n.unit, .int .i64 n.init, .int .u32 (n.ref : Int), .slice b.s1 n.masters.length b.c1, .slice b.s2 n.messages.length b.c2, .slice b.s3 n.windows.length b.c3]] w' fun e w'' => e = .returned (.bool (decide (m = n))) ∧ Below w'.heap.size w' w'') := fun w' h => rsame_any w' m n a b h.ia h.ib HS.out.1 HS.out.2
  have HG1 : Hid (∀ w', T12 W w' m n a b W.heap.size (W.heap.size + 1) (W.heap.size + 1 + 1) #[.bool ext, .int .u32 (id : Int), .bool rtr, .string fd] → Calls Tryd.prog 17 #[.agg #[.int .i64 m.level, .int .i64 m.nodes, .int .i64 m.cycles, .int .i64 m.length, .int .i64 m.enable, .int .i64 m.unit, .int .i64 m.init, .int .u32 (m.ref : Int), .slice a.s1 m.masters.length a.c1, .slice a.s2 m.messages.length a.c2, .slice a.s3 m.windows.length a.c3], .agg #[.bool ext, .int .u32 (id : Int), .bool rtr, .string fd]] w' fun e w'' => e = .returned (.int .i64 (Mx.find m ext rtr id)) ∧ Below w'.heap.size w' w'') := fun w' h => S.find w' m a ext rtr id fd (HQ.out _ h.below) h.ia HS.out.1 HW.out.1 HW.out.2.2.1
  have HG2 : Hid (∀ w', T12 W w' m n a b W.heap.size (W.heap.size + 1) (W.heap.size + 1 + 1) #[.bool ext, .int .u32 (id : Int), .bool rtr, .string fd] → Calls Tryd.prog 18 #[.agg #[.int .i64 m.level, .int .i64 m.nodes, .int .i64 m.cycles, .int .i64 m.length, .int .i64 m.enable, .int .i64 m.unit, .int .i64 m.init, .int .u32 (m.ref : Int), .slice a.s1 m.masters.length a.c1, .slice a.s2 m.messages.length a.c2, .slice a.s3 m.windows.length a.c3], .agg #[.bool ext, .int .u32 (id : Int), .bool rtr, .string fd]] w' fun e w'' => e = .returned (.int .i64 (Mx.find m ext rtr id)) ∧ Below w'.heap.size w' w'') := fun w' h => rfind_any w' m a ext rtr id fd h.ia HS.out.1
  have HR1 : Hid (∀ w', T12 W w' m n a b W.heap.size (W.heap.size + 1) (W.heap.size + 1 + 1) #[.bool ext, .int .u32 (id : Int), .bool rtr, .string fd] → Calls Tryd.prog 19 #[.agg #[.int .i64 m.level, .int .i64 m.nodes, .int .i64 m.cycles, .int .i64 m.length, .int .i64 m.enable, .int .i64 m.unit, .int .i64 m.init, .int .u32 (m.ref : Int), .slice a.s1 m.masters.length a.c1, .slice a.s2 m.messages.length a.c2, .slice a.s3 m.windows.length a.c3], .int .i64 who] w' fun e w'' => e = .returned (.int .i64 (Mx.rank m who)) ∧ Below w'.heap.size w' w'') := fun w' h => S.rank w' m a who (HQ.out _ h.below) h.ia HS.out.1 HW.out.1 HW.out.2.2.2.2
  have HR2 : Hid (∀ w', T12 W w' m n a b W.heap.size (W.heap.size + 1) (W.heap.size + 1 + 1) #[.bool ext, .int .u32 (id : Int), .bool rtr, .string fd] → Calls Tryd.prog 20 #[.agg #[.int .i64 m.level, .int .i64 m.nodes, .int .i64 m.cycles, .int .i64 m.length, .int .i64 m.enable, .int .i64 m.unit, .int .i64 m.init, .int .u32 (m.ref : Int), .slice a.s1 m.masters.length a.c1, .slice a.s2 m.messages.length a.c2, .slice a.s3 m.windows.length a.c3], .int .i64 who] w' fun e w'' => e = .returned (.int .i64 (Mx.rank m who)) ∧ Below w'.heap.size w' w'') := fun w' h => rrank_any w' m a who h.ia HS.out.1
  have HV1 : Hid (∀ w' a', T12 W w' m n a b W.heap.size (W.heap.size + 1) (W.heap.size + 1 + 1) #[.bool ext, .int .u32 (id : Int), .bool rtr, .string fd] → MIn w' m a' → Calls Tryd.prog 15 #[.agg #[.int .i64 m.level, .int .i64 m.nodes, .int .i64 m.cycles, .int .i64 m.length, .int .i64 m.enable, .int .i64 m.unit, .int .i64 m.init, .int .u32 (m.ref : Int), .slice a.s1 m.masters.length a.c1, .slice a.s2 m.messages.length a.c2, .slice a.s3 m.windows.length a.c3], .agg #[.int .i64 m.level, .int .i64 m.nodes, .int .i64 m.cycles, .int .i64 m.length, .int .i64 m.enable, .int .i64 m.unit, .int .i64 m.init, .int .u32 (m.ref : Int), .slice a'.s1 m.masters.length a'.c1, .slice a'.s2 m.messages.length a'.c2, .slice a'.s3 m.windows.length a'.c3]] w' fun e w'' => e = .returned (.bool true) ∧ Below w'.heap.size w' w'') := fun w' a' h hm' => by
    have := S.same w' m m a a' (HQ.out _ h.below) h.ia hm' HS.out.1 HS.out.1 HW.out.1 HW.out.1
    rw [decide_eq_true rfl] at this
    exact this
  have HV2 : Hid (∀ w' a', T12 W w' m n a b W.heap.size (W.heap.size + 1) (W.heap.size + 1 + 1) #[.bool ext, .int .u32 (id : Int), .bool rtr, .string fd] → MIn w' m a' → Calls Tryd.prog 16 #[.agg #[.int .i64 m.level, .int .i64 m.nodes, .int .i64 m.cycles, .int .i64 m.length, .int .i64 m.enable, .int .i64 m.unit, .int .i64 m.init, .int .u32 (m.ref : Int), .slice a.s1 m.masters.length a.c1, .slice a.s2 m.messages.length a.c2, .slice a.s3 m.windows.length a.c3], .agg #[.int .i64 m.level, .int .i64 m.nodes, .int .i64 m.cycles, .int .i64 m.length, .int .i64 m.enable, .int .i64 m.unit, .int .i64 m.init, .int .u32 (m.ref : Int), .slice a'.s1 m.masters.length a'.c1, .slice a'.s2 m.messages.length a'.c2, .slice a'.s3 m.windows.length a'.c3]] w' fun e w'' => e = .returned (.bool true) ∧ Below w'.heap.size w' w'') := fun w' a' h hm' => by
    have := rsame_any w' m m a a' h.ia hm' HS.out.1 HS.out.1
    rw [decide_eq_true rfl] at this
    exact this
  generalize Mx.fid m msg d.size = fo at HF1 HF2
  generalize Mx.is m = vi at HI1 HI2
  generalize decide (m = n) = vs at HS1 HS2
  generalize Mx.find m ext rtr id = vf at HG1 HG2
  generalize Mx.rank m who = vr at HR1 HR2
  go_wp2_with fail
  refine (HF1.out _ HT.out).mono ?_
  rintro e w4 ⟨rfl, hb4⟩
  replace HT : Hid (T12 W w4 m n a b W.heap.size (W.heap.size + 1) (W.heap.size + 1 + 1) #[.bool ext, .int .u32 (id : Int), .bool rtr, .string fd]) := HT.out.on hb4
  clear hb4 HF1
  clear y0 y1 y2 y3 y4 y5 y6 y7 y8 y9 y10 z0 z1 z2 z3 z4 z5 z6 z7 z8 z9 z10
  cases fo with
  | none =>
    have hv : fVal (none) d = .tuple #[.agg #[.bool false, .int .u32 0, .bool false, .string ByteArray.empty], .bool false] := rfl
    rw [hv]
    have hb5 : Below w4.heap.size w4 (w4.alloc (.cells #[.bool false, .int .u32 0, .bool false, .string ByteArray.empty] 29)) := (Below.refl _ _).alloc (Nat.le_refl _) _
    have HRx : Hid (RowT 29 (w4.alloc (.cells #[.bool false, .int .u32 0, .bool false, .string ByteArray.empty] 29)) w4.heap.size #[.bool false, .int .u32 0, .bool false, .string ByteArray.empty]) := RowT.new _ _ _
    replace HT : Hid (T12 W (w4.alloc (.cells #[.bool false, .int .u32 0, .bool false, .string ByteArray.empty] 29)) m n a b W.heap.size (W.heap.size + 1) (W.heap.size + 1 + 1) #[.bool ext, .int .u32 (id : Int), .bool rtr, .string fd]) := HT.out.on hb5
    clear hb5
    obtain ⟨y0, y1, y2, y3, y4, y5, y6, y7, y8, y9, y10⟩ := HY.out (w4.alloc (.cells #[.bool false, .int .u32 0, .bool false, .string ByteArray.empty] 29)) W.heap.size m a HT.out.ra
    obtain ⟨z0, z1, z2, z3, z4, z5, z6, z7, z8, z9, z10⟩ := HY.out (w4.alloc (.cells #[.bool false, .int .u32 0, .bool false, .string ByteArray.empty] 29)) (W.heap.size + 1) n b HT.out.rb
    go_wp2_with fail
    generalize (w4.alloc (.cells #[.bool false, .int .u32 0, .bool false, .string ByteArray.empty] 29)) = wX at HT HRx y0 y1 y2 y3 y4 y5 y6 y7 y8 y9 y10 z0 z1 z2 z3 z4 z5 z6 z7 z8 z9 z10 ⊢
    generalize w4.heap.size = px at HRx ⊢
    refine (HF2.out _ HT.out).mono ?_
    rintro e w5 ⟨rfl, hb5⟩
    replace HT : Hid (T12 W w5 m n a b W.heap.size (W.heap.size + 1) (W.heap.size + 1 + 1) #[.bool ext, .int .u32 (id : Int), .bool rtr, .string fd]) := HT.out.on hb5
    replace HRx : Hid (RowT 29 w5 px #[.bool false, .int .u32 0, .bool false, .string ByteArray.empty]) := HRx.out.on hb5
    clear hb5 HF2
    clear y0 y1 y2 y3 y4 y5 y6 y7 y8 y9 y10 z0 z1 z2 z3 z4 z5 z6 z7 z8 z9 z10
    rw [hv]
    have hb6 : Below w5.heap.size w5 (w5.alloc (.cells #[.bool false, .int .u32 0, .bool false, .string ByteArray.empty] 29)) := (Below.refl _ _).alloc (Nat.le_refl _) _
    have HRy : Hid (RowT 29 (w5.alloc (.cells #[.bool false, .int .u32 0, .bool false, .string ByteArray.empty] 29)) w5.heap.size #[.bool false, .int .u32 0, .bool false, .string ByteArray.empty]) := RowT.new _ _ _
    replace HT : Hid (T12 W (w5.alloc (.cells #[.bool false, .int .u32 0, .bool false, .string ByteArray.empty] 29)) m n a b W.heap.size (W.heap.size + 1) (W.heap.size + 1 + 1) #[.bool ext, .int .u32 (id : Int), .bool rtr, .string fd]) := HT.out.on hb6
    replace HRx : Hid (RowT 29 (w5.alloc (.cells #[.bool false, .int .u32 0, .bool false, .string ByteArray.empty] 29)) px #[.bool false, .int .u32 0, .bool false, .string ByteArray.empty]) := HRx.out.on hb6
    clear hb6
    obtain ⟨y0, y1, y2, y3, y4, y5, y6, y7, y8, y9, y10⟩ := HY.out (w5.alloc (.cells #[.bool false, .int .u32 0, .bool false, .string ByteArray.empty] 29)) W.heap.size m a HT.out.ra
    obtain ⟨z0, z1, z2, z3, z4, z5, z6, z7, z8, z9, z10⟩ := HY.out (w5.alloc (.cells #[.bool false, .int .u32 0, .bool false, .string ByteArray.empty] 29)) (W.heap.size + 1) n b HT.out.rb
    go_wp2_with fail
    generalize w5.alloc (.cells #[.bool false, .int .u32 0, .bool false, .string ByteArray.empty] 29) = wY at HT HRx HRy y0 y1 y2 y3 y4 y5 y6 y7 y8 y9 y10 z0 z1 z2 z3 z4 z5 z6 z7 z8 z9 z10 ⊢
    generalize w5.heap.size = py at HRy ⊢
    refine (HCp.out _ HT.out).mono ?_
    rintro e w6 ⟨a', rfl, hm', hb6⟩
    clear y0 y1 y2 y3 y4 y5 y6 y7 y8 y9 y10 z0 z1 z2 z3 z4 z5 z6 z7 z8 z9 z10
    have e6 : mV m a' = .agg #[.int .i64 m.level, .int .i64 m.nodes, .int .i64 m.cycles, .int .i64 m.length, .int .i64 m.enable, .int .i64 m.unit, .int .i64 m.init, .int .u32 (m.ref : Int), .slice a'.s1 m.masters.length a'.c1, .slice a'.s2 m.messages.length a'.c2, .slice a'.s3 m.windows.length a'.c3] := rfl
    rw [e6]
    have hb7 : Below w6.heap.size w6 (w6.alloc (.cells #[.int .i64 m.level, .int .i64 m.nodes, .int .i64 m.cycles, .int .i64 m.length, .int .i64 m.enable, .int .i64 m.unit, .int .i64 m.init, .int .u32 (m.ref : Int), .slice a'.s1 m.masters.length a'.c1, .slice a'.s2 m.messages.length a'.c2, .slice a'.s3 m.windows.length a'.c3] 27)) := (Below.refl _ _).alloc (Nat.le_refl _) _
    have HRc : Hid (RowT 27 (w6.alloc (.cells #[.int .i64 m.level, .int .i64 m.nodes, .int .i64 m.cycles, .int .i64 m.length, .int .i64 m.enable, .int .i64 m.unit, .int .i64 m.init, .int .u32 (m.ref : Int), .slice a'.s1 m.masters.length a'.c1, .slice a'.s2 m.messages.length a'.c2, .slice a'.s3 m.windows.length a'.c3] 27)) w6.heap.size (mCs m a')) := RowT.new _ _ _
    have HMc : Hid (MIn (w6.alloc (.cells #[.int .i64 m.level, .int .i64 m.nodes, .int .i64 m.cycles, .int .i64 m.length, .int .i64 m.enable, .int .i64 m.unit, .int .i64 m.init, .int .u32 (m.ref : Int), .slice a'.s1 m.masters.length a'.c1, .slice a'.s2 m.messages.length a'.c2, .slice a'.s3 m.windows.length a'.c3] 27)) m a') := hm'.on hb7
    replace HT : Hid (T12 W (w6.alloc (.cells #[.int .i64 m.level, .int .i64 m.nodes, .int .i64 m.cycles, .int .i64 m.length, .int .i64 m.enable, .int .i64 m.unit, .int .i64 m.init, .int .u32 (m.ref : Int), .slice a'.s1 m.masters.length a'.c1, .slice a'.s2 m.messages.length a'.c2, .slice a'.s3 m.windows.length a'.c3] 27)) m n a b W.heap.size (W.heap.size + 1) (W.heap.size + 1 + 1) #[.bool ext, .int .u32 (id : Int), .bool rtr, .string fd]) := (HT.out.on hb6).on hb7
    replace HRx : Hid (RowT 29 (w6.alloc (.cells #[.int .i64 m.level, .int .i64 m.nodes, .int .i64 m.cycles, .int .i64 m.length, .int .i64 m.enable, .int .i64 m.unit, .int .i64 m.init, .int .u32 (m.ref : Int), .slice a'.s1 m.masters.length a'.c1, .slice a'.s2 m.messages.length a'.c2, .slice a'.s3 m.windows.length a'.c3] 27)) px #[.bool false, .int .u32 0, .bool false, .string ByteArray.empty]) := (HRx.out.on hb6).on hb7
    replace HRy : Hid (RowT 29 (w6.alloc (.cells #[.int .i64 m.level, .int .i64 m.nodes, .int .i64 m.cycles, .int .i64 m.length, .int .i64 m.enable, .int .i64 m.unit, .int .i64 m.init, .int .u32 (m.ref : Int), .slice a'.s1 m.masters.length a'.c1, .slice a'.s2 m.messages.length a'.c2, .slice a'.s3 m.windows.length a'.c3] 27)) py #[.bool false, .int .u32 0, .bool false, .string ByteArray.empty]) := (HRy.out.on hb6).on hb7
    clear hb6 hb7 hm' e6 HCp
    go_wp2_with fail
    generalize w6.alloc (.cells #[.int .i64 m.level, .int .i64 m.nodes, .int .i64 m.cycles, .int .i64 m.length, .int .i64 m.enable, .int .i64 m.unit, .int .i64 m.init, .int .u32 (m.ref : Int), .slice a'.s1 m.masters.length a'.c1, .slice a'.s2 m.messages.length a'.c2, .slice a'.s3 m.windows.length a'.c3] 27) = wZ at HT HRx HRy HRc HMc ⊢
    generalize w6.heap.size = pc at HRc ⊢
    have HK : Hid (KT W wZ m n a b a' W.heap.size (W.heap.size + 1) (W.heap.size + 1 + 1) px py pc #[.bool ext, .int .u32 (id : Int), .bool rtr, .string fd] #[.bool false, .int .u32 0, .bool false, .string ByteArray.empty]) := ⟨HT.out, HMc.out, HRc.out, HRx.out, HRy.out⟩
    clear HT HMc HRc HRx HRy
    refine wp_region_held_drew (S := fun w' => CT w' m n a b a' W.heap.size (W.heap.size + 1) (W.heap.size + 1 + 1) px py pc (.bool ext) (.int .u32 (id : Int)) (.bool rtr) (.string fd) (.bool false) (.int .u32 0) (.bool false) (.string ByteArray.empty)) (by kernel_rfl) (HK.out.on (Below.refl _ _).drew).cells (fun hHeld => ?_)
    replace HK : Hid (KT W _ m n a b a' W.heap.size (W.heap.size + 1) (W.heap.size + 1 + 1) px py pc #[.bool ext, .int .u32 (id : Int), .bool rtr, .string fd] #[.bool false, .int .u32 0, .bool false, .string ByteArray.empty]) := HK.out.on (Below.refl _ _).drew
    refine takeL (i := 0) (d := 49) (v := ?_) rfl (by kernel_rfl) (by kernel_rfl) (by kernel_rfl) (fun _ _ _ h => h) (by rfl) ?_ (by assumption) ?_
    rotate_left
    · intro w hSw; unfold CT at hSw; go_simp; (try with_reducible rfl)
    simp only [Act.put, List.setIfInBounds_toArray, List.set_cons_zero, List.set_cons_succ]
    refine takeL (i := 2) (d := 51) (v := ?_) rfl (by kernel_rfl) (by kernel_rfl) (by kernel_rfl) (fun _ _ _ h => h) (by rfl) ?_ (by assumption) ?_
    rotate_left
    · intro w hSw; unfold CT at hSw; go_simp; (try with_reducible rfl)
    simp only [Act.put, List.setIfInBounds_toArray, List.set_cons_zero, List.set_cons_succ]
    refine consL (i := 1) (d := 50) rfl (by kernel_rfl) (fun K' hK' => ?_)
    go_simp
    refine (HI1.out _ HK.out.t).mono ?_
    rintro e w' ⟨rfl, hb'⟩
    replace HK : Hid (KT W w' m n a b a' W.heap.size (W.heap.size + 1) (W.heap.size + 1 + 1) px py pc #[.bool ext, .int .u32 (id : Int), .bool rtr, .string fd] #[.bool false, .int .u32 0, .bool false, .string ByteArray.empty]) := HK.out.on hb'
    clear hb' hHeld
    try go_wp2_with fail
    refine hK'.out _ _ HK.out.cells (fun hHeld => ?_)
    clear hK' K'
    refine consL (i := 3) (d := 52) rfl (by kernel_rfl) (fun K' hK' => ?_)
    go_simp
    refine (HI2.out _ HK.out.t).mono ?_
    rintro e w' ⟨rfl, hb'⟩
    replace HK : Hid (KT W w' m n a b a' W.heap.size (W.heap.size + 1) (W.heap.size + 1 + 1) px py pc #[.bool ext, .int .u32 (id : Int), .bool rtr, .string fd] #[.bool false, .int .u32 0, .bool false, .string ByteArray.empty]) := HK.out.on hb'
    clear hb' hHeld
    try go_wp2_with fail
    refine hK'.out _ _ HK.out.cells (fun hHeld => ?_)
    clear hK' K'
    refine takeL (i := 4) (d := 53) (v := ?_) rfl (by kernel_rfl) (by kernel_rfl) (by kernel_rfl) (fun _ _ _ h => h) (by rfl) ?_ (by assumption) ?_
    rotate_left
    · intro w hSw; unfold CT at hSw; go_simp; (try with_reducible rfl)
    simp only [Act.put, List.setIfInBounds_toArray, List.set_cons_zero, List.set_cons_succ]
    refine takeL (i := 5) (d := 54) (v := ?_) rfl (by kernel_rfl) (by kernel_rfl) (by kernel_rfl) (fun _ _ _ h => h) (by rfl) ?_ (by assumption) ?_
    rotate_left
    · intro w hSw; unfold CT at hSw; go_simp; (try with_reducible rfl)
    simp only [Act.put, List.setIfInBounds_toArray, List.set_cons_zero, List.set_cons_succ]
    refine takeL (i := 6) (d := 55) (v := ?_) rfl (by kernel_rfl) (by kernel_rfl) (by kernel_rfl) (fun _ _ _ h => h) (by rfl) ?_ (by assumption) ?_
    rotate_left
    · intro w hSw; unfold CT at hSw; go_simp; (try with_reducible rfl)
    simp only [Act.put, List.setIfInBounds_toArray, List.set_cons_zero, List.set_cons_succ]
    refine takeL (i := 7) (d := 56) (v := ?_) rfl (by kernel_rfl) (by kernel_rfl) (by kernel_rfl) (fun _ _ _ h => h) (by rfl) ?_ (by assumption) ?_
    rotate_left
    · intro w hSw; unfold CT at hSw; go_simp; (try with_reducible rfl)
    simp only [Act.put, List.setIfInBounds_toArray, List.set_cons_zero, List.set_cons_succ]
    refine takeL (i := 9) (d := 58) (v := ?_) rfl (by kernel_rfl) (by kernel_rfl) (by kernel_rfl) (fun _ _ _ h => h) (by rfl) ?_ (by assumption) ?_
    rotate_left
    · intro w hSw; unfold CT at hSw; go_simp; (try with_reducible rfl)
    simp only [Act.put, List.setIfInBounds_toArray, List.set_cons_zero, List.set_cons_succ]
    refine takeL (i := 10) (d := 59) (v := ?_) rfl (by kernel_rfl) (by kernel_rfl) (by kernel_rfl) (fun _ _ _ h => h) (by rfl) ?_ (by assumption) ?_
    rotate_left
    · intro w hSw; unfold CT at hSw; go_simp; (try with_reducible rfl)
    simp only [Act.put, List.setIfInBounds_toArray, List.set_cons_zero, List.set_cons_succ]
    refine consL (i := 8) (d := 57) rfl (by kernel_rfl) (fun K' hK' => ?_)
    go_simp
    refine (HS1.out _ HK.out.t).mono ?_
    rintro e w' ⟨rfl, hb'⟩
    replace HK : Hid (KT W w' m n a b a' W.heap.size (W.heap.size + 1) (W.heap.size + 1 + 1) px py pc #[.bool ext, .int .u32 (id : Int), .bool rtr, .string fd] #[.bool false, .int .u32 0, .bool false, .string ByteArray.empty]) := HK.out.on hb'
    clear hb' hHeld
    try go_wp2_with fail
    refine hK'.out _ _ HK.out.cells (fun hHeld => ?_)
    clear hK' K'
    refine consL (i := 11) (d := 60) rfl (by kernel_rfl) (fun K' hK' => ?_)
    go_simp
    refine (HS2.out _ HK.out.t).mono ?_
    rintro e w' ⟨rfl, hb'⟩
    replace HK : Hid (KT W w' m n a b a' W.heap.size (W.heap.size + 1) (W.heap.size + 1 + 1) px py pc #[.bool ext, .int .u32 (id : Int), .bool rtr, .string fd] #[.bool false, .int .u32 0, .bool false, .string ByteArray.empty]) := HK.out.on hb'
    clear hb' hHeld
    try go_wp2_with fail
    refine hK'.out _ _ HK.out.cells (fun hHeld => ?_)
    clear hK' K'
    refine takeL (i := 12) (d := 61) (v := ?_) rfl (by kernel_rfl) (by kernel_rfl) (by kernel_rfl) (fun _ _ _ h => h) (by rfl) ?_ (by assumption) ?_
    rotate_left
    · intro w hSw; unfold CT at hSw; go_simp; (try with_reducible rfl)
    simp only [Act.put, List.setIfInBounds_toArray, List.set_cons_zero, List.set_cons_succ]
    refine takeL (i := 13) (d := 62) (v := ?_) rfl (by kernel_rfl) (by kernel_rfl) (by kernel_rfl) (fun _ _ _ h => h) (by rfl) ?_ (by assumption) ?_
    rotate_left
    · intro w hSw; unfold CT at hSw; go_simp; (try with_reducible rfl)
    simp only [Act.put, List.setIfInBounds_toArray, List.set_cons_zero, List.set_cons_succ]
    refine takeL (i := 14) (d := 63) (v := ?_) rfl (by kernel_rfl) (by kernel_rfl) (by kernel_rfl) (fun _ _ _ h => h) (by rfl) ?_ (by assumption) ?_
    rotate_left
    · intro w hSw; unfold CT at hSw; go_simp; (try with_reducible rfl)
    simp only [Act.put, List.setIfInBounds_toArray, List.set_cons_zero, List.set_cons_succ]
    refine takeL (i := 15) (d := 64) (v := ?_) rfl (by kernel_rfl) (by kernel_rfl) (by kernel_rfl) (fun _ _ _ h => h) (by rfl) ?_ (by assumption) ?_
    rotate_left
    · intro w hSw; unfold CT at hSw; go_simp; (try with_reducible rfl)
    simp only [Act.put, List.setIfInBounds_toArray, List.set_cons_zero, List.set_cons_succ]
    refine takeL (i := 16) (d := 65) (v := ?_) rfl (by kernel_rfl) (by kernel_rfl) (by kernel_rfl) (fun _ _ _ h => h) (by rfl) ?_ (by assumption) ?_
    rotate_left
    · intro w hSw; unfold CT at hSw; go_simp; (try with_reducible rfl)
    simp only [Act.put, List.setIfInBounds_toArray, List.set_cons_zero, List.set_cons_succ]
    refine takeL (i := 18) (d := 67) (v := ?_) rfl (by kernel_rfl) (by kernel_rfl) (by kernel_rfl) (fun _ _ _ h => h) (by rfl) ?_ (by assumption) ?_
    rotate_left
    · intro w hSw; unfold CT at hSw; go_simp; (try with_reducible rfl)
    simp only [Act.put, List.setIfInBounds_toArray, List.set_cons_zero, List.set_cons_succ]
    refine takeL (i := 19) (d := 68) (v := ?_) rfl (by kernel_rfl) (by kernel_rfl) (by kernel_rfl) (fun _ _ _ h => h) (by rfl) ?_ (by assumption) ?_
    rotate_left
    · intro w hSw; unfold CT at hSw; go_simp; (try with_reducible rfl)
    simp only [Act.put, List.setIfInBounds_toArray, List.set_cons_zero, List.set_cons_succ]
    refine consL (i := 17) (d := 66) rfl (by kernel_rfl) (fun K' hK' => ?_)
    go_simp
    refine (HG1.out _ HK.out.t).mono ?_
    rintro e w' ⟨rfl, hb'⟩
    replace HK : Hid (KT W w' m n a b a' W.heap.size (W.heap.size + 1) (W.heap.size + 1 + 1) px py pc #[.bool ext, .int .u32 (id : Int), .bool rtr, .string fd] #[.bool false, .int .u32 0, .bool false, .string ByteArray.empty]) := HK.out.on hb'
    clear hb' hHeld
    try go_wp2_with fail
    refine hK'.out _ _ HK.out.cells (fun hHeld => ?_)
    clear hK' K'
    refine consL (i := 20) (d := 69) rfl (by kernel_rfl) (fun K' hK' => ?_)
    go_simp
    refine (HG2.out _ HK.out.t).mono ?_
    rintro e w' ⟨rfl, hb'⟩
    replace HK : Hid (KT W w' m n a b a' W.heap.size (W.heap.size + 1) (W.heap.size + 1 + 1) px py pc #[.bool ext, .int .u32 (id : Int), .bool rtr, .string fd] #[.bool false, .int .u32 0, .bool false, .string ByteArray.empty]) := HK.out.on hb'
    clear hb' hHeld
    try go_wp2_with fail
    refine hK'.out _ _ HK.out.cells (fun hHeld => ?_)
    clear hK' K'
    refine takeL (i := 21) (d := 70) (v := ?_) rfl (by kernel_rfl) (by kernel_rfl) (by kernel_rfl) (fun _ _ _ h => h) (by rfl) ?_ (by assumption) ?_
    rotate_left
    · intro w hSw; unfold CT at hSw; go_simp; (try with_reducible rfl)
    simp only [Act.put, List.setIfInBounds_toArray, List.set_cons_zero, List.set_cons_succ]
    refine takeL (i := 22) (d := 71) (v := ?_) rfl (by kernel_rfl) (by kernel_rfl) (by kernel_rfl) (fun _ _ _ h => h) (by rfl) ?_ (by assumption) ?_
    rotate_left
    · intro w hSw; unfold CT at hSw; go_simp; (try with_reducible rfl)
    simp only [Act.put, List.setIfInBounds_toArray, List.set_cons_zero, List.set_cons_succ]
    refine takeL (i := 23) (d := 72) (v := ?_) rfl (by kernel_rfl) (by kernel_rfl) (by kernel_rfl) (fun _ _ _ h => h) (by rfl) ?_ (by assumption) ?_
    rotate_left
    · intro w hSw; unfold CT at hSw; go_simp; (try with_reducible rfl)
    simp only [Act.put, List.setIfInBounds_toArray, List.set_cons_zero, List.set_cons_succ]
    refine takeL (i := 24) (d := 73) (v := ?_) rfl (by kernel_rfl) (by kernel_rfl) (by kernel_rfl) (fun _ _ _ h => h) (by rfl) ?_ (by assumption) ?_
    rotate_left
    · intro w hSw; unfold CT at hSw; go_simp; (try with_reducible rfl)
    simp only [Act.put, List.setIfInBounds_toArray, List.set_cons_zero, List.set_cons_succ]
    refine takeL (i := 25) (d := 74) (v := ?_) rfl (by kernel_rfl) (by kernel_rfl) (by kernel_rfl) (fun _ _ _ h => h) (by rfl) ?_ (by assumption) ?_
    rotate_left
    · intro w hSw; unfold CT at hSw; go_simp; (try with_reducible rfl)
    simp only [Act.put, List.setIfInBounds_toArray, List.set_cons_zero, List.set_cons_succ]
    refine takeL (i := 26) (d := 75) (v := ?_) rfl (by kernel_rfl) (by kernel_rfl) (by kernel_rfl) (fun _ _ _ h => h) (by rfl) ?_ (by assumption) ?_
    rotate_left
    · intro w hSw; unfold CT at hSw; go_simp; (try with_reducible rfl)
    simp only [Act.put, List.setIfInBounds_toArray, List.set_cons_zero, List.set_cons_succ]
    refine takeL (i := 27) (d := 76) (v := ?_) rfl (by kernel_rfl) (by kernel_rfl) (by kernel_rfl) (fun _ _ _ h => h) (by rfl) ?_ (by assumption) ?_
    rotate_left
    · intro w hSw; unfold CT at hSw; go_simp; (try with_reducible rfl)
    simp only [Act.put, List.setIfInBounds_toArray, List.set_cons_zero, List.set_cons_succ]
    refine takeL (i := 28) (d := 77) (v := ?_) rfl (by kernel_rfl) (by kernel_rfl) (by kernel_rfl) (fun _ _ _ h => h) (by rfl) ?_ (by assumption) ?_
    rotate_left
    · intro w hSw; unfold CT at hSw; go_simp; (try with_reducible rfl)
    simp only [Act.put, List.setIfInBounds_toArray, List.set_cons_zero, List.set_cons_succ]
    refine takeL (i := 29) (d := 78) (v := ?_) rfl (by kernel_rfl) (by kernel_rfl) (by kernel_rfl) (fun _ _ _ h => h) (by rfl) ?_ (by assumption) ?_
    rotate_left
    · intro w hSw; unfold CT at hSw; go_simp; (try with_reducible rfl)
    simp only [Act.put, List.setIfInBounds_toArray, List.set_cons_zero, List.set_cons_succ]
    refine takeL (i := 30) (d := 79) (v := ?_) rfl (by kernel_rfl) (by kernel_rfl) (by kernel_rfl) (fun _ _ _ h => h) (by rfl) ?_ (by assumption) ?_
    rotate_left
    · intro w hSw; unfold CT at hSw; go_simp; (try with_reducible rfl)
    simp only [Act.put, List.setIfInBounds_toArray, List.set_cons_zero, List.set_cons_succ]
    refine takeL (i := 31) (d := 80) (v := ?_) rfl (by kernel_rfl) (by kernel_rfl) (by kernel_rfl) (fun _ _ _ h => h) (by rfl) ?_ (by assumption) ?_
    rotate_left
    · intro w hSw; unfold CT at hSw; go_simp; (try with_reducible rfl)
    simp only [Act.put, List.setIfInBounds_toArray, List.set_cons_zero, List.set_cons_succ]
    refine takeL (i := 32) (d := 81) (v := ?_) rfl (by kernel_rfl) (by kernel_rfl) (by kernel_rfl) (fun _ _ _ h => h) (by rfl) ?_ (by assumption) ?_
    rotate_left
    · intro w hSw; unfold CT at hSw; go_simp; (try with_reducible rfl)
    simp only [Act.put, List.setIfInBounds_toArray, List.set_cons_zero, List.set_cons_succ]
    refine takeL (i := 33) (d := 82) (v := ?_) rfl (by kernel_rfl) (by kernel_rfl) (by kernel_rfl) (fun _ _ _ h => h) (by rfl) ?_ (by assumption) ?_
    rotate_left
    · intro w hSw; unfold CT at hSw; go_simp; (try with_reducible rfl)
    simp only [Act.put, List.setIfInBounds_toArray, List.set_cons_zero, List.set_cons_succ]
    refine takeL (i := 34) (d := 83) (v := ?_) rfl (by kernel_rfl) (by kernel_rfl) (by kernel_rfl) (fun _ _ _ h => h) (by rfl) ?_ (by assumption) ?_
    rotate_left
    · intro w hSw; unfold CT at hSw; go_simp; (try with_reducible rfl)
    simp only [Act.put, List.setIfInBounds_toArray, List.set_cons_zero, List.set_cons_succ]
    refine takeL (i := 35) (d := 84) (v := ?_) rfl (by kernel_rfl) (by kernel_rfl) (by kernel_rfl) (fun _ _ _ h => h) (by rfl) ?_ (by assumption) ?_
    rotate_left
    · intro w hSw; unfold CT at hSw; go_simp; (try with_reducible rfl)
    simp only [Act.put, List.setIfInBounds_toArray, List.set_cons_zero, List.set_cons_succ]
    refine takeL (i := 37) (d := 86) (v := ?_) rfl (by kernel_rfl) (by kernel_rfl) (by kernel_rfl) (fun _ _ _ h => h) (by rfl) ?_ (by assumption) ?_
    rotate_left
    · intro w hSw; unfold CT at hSw; go_simp; (try with_reducible rfl)
    simp only [Act.put, List.setIfInBounds_toArray, List.set_cons_zero, List.set_cons_succ]
    refine takeL (i := 38) (d := 87) (v := ?_) rfl (by kernel_rfl) (by kernel_rfl) (by kernel_rfl) (fun _ _ _ h => h) (by rfl) ?_ (by assumption) ?_
    rotate_left
    · intro w hSw; unfold CT at hSw; go_simp; (try with_reducible rfl)
    simp only [Act.put, List.setIfInBounds_toArray, List.set_cons_zero, List.set_cons_succ]
    refine consL (i := 36) (d := 85) rfl (by kernel_rfl) (fun K' hK' => ?_)
    go_simp
    refine (HR1.out _ HK.out.t).mono ?_
    rintro e w' ⟨rfl, hb'⟩
    replace HK : Hid (KT W w' m n a b a' W.heap.size (W.heap.size + 1) (W.heap.size + 1 + 1) px py pc #[.bool ext, .int .u32 (id : Int), .bool rtr, .string fd] #[.bool false, .int .u32 0, .bool false, .string ByteArray.empty]) := HK.out.on hb'
    clear hb' hHeld
    try go_wp2_with fail
    refine hK'.out _ _ HK.out.cells (fun hHeld => ?_)
    clear hK' K'
    refine consL (i := 39) (d := 88) rfl (by kernel_rfl) (fun K' hK' => ?_)
    go_simp
    refine (HR2.out _ HK.out.t).mono ?_
    rintro e w' ⟨rfl, hb'⟩
    replace HK : Hid (KT W w' m n a b a' W.heap.size (W.heap.size + 1) (W.heap.size + 1 + 1) px py pc #[.bool ext, .int .u32 (id : Int), .bool rtr, .string fd] #[.bool false, .int .u32 0, .bool false, .string ByteArray.empty]) := HK.out.on hb'
    clear hb' hHeld
    try go_wp2_with fail
    refine hK'.out _ _ HK.out.cells (fun hHeld => ?_)
    clear hK' K'
    refine takeL (i := 40) (d := 89) (v := ?_) rfl (by kernel_rfl) (by kernel_rfl) (by kernel_rfl) (fun _ _ _ h => h) (by rfl) ?_ (by assumption) ?_
    rotate_left
    · intro w hSw; unfold CT at hSw; go_simp; (try with_reducible rfl)
    simp only [Act.put, List.setIfInBounds_toArray, List.set_cons_zero, List.set_cons_succ]
    refine takeL (i := 41) (d := 90) (v := ?_) rfl (by kernel_rfl) (by kernel_rfl) (by kernel_rfl) (fun _ _ _ h => h) (by rfl) ?_ (by assumption) ?_
    rotate_left
    · intro w hSw; unfold CT at hSw; go_simp; (try with_reducible rfl)
    simp only [Act.put, List.setIfInBounds_toArray, List.set_cons_zero, List.set_cons_succ]
    refine takeL (i := 42) (d := 91) (v := ?_) rfl (by kernel_rfl) (by kernel_rfl) (by kernel_rfl) (fun _ _ _ h => h) (by rfl) ?_ (by assumption) ?_
    rotate_left
    · intro w hSw; unfold CT at hSw; go_simp; (try with_reducible rfl)
    simp only [Act.put, List.setIfInBounds_toArray, List.set_cons_zero, List.set_cons_succ]
    refine takeL (i := 43) (d := 92) (v := ?_) rfl (by kernel_rfl) (by kernel_rfl) (by kernel_rfl) (fun _ _ _ h => h) (by rfl) ?_ (by assumption) ?_
    rotate_left
    · intro w hSw; unfold CT at hSw; go_simp; (try with_reducible rfl)
    simp only [Act.put, List.setIfInBounds_toArray, List.set_cons_zero, List.set_cons_succ]
    refine takeL (i := 44) (d := 93) (v := ?_) rfl (by kernel_rfl) (by kernel_rfl) (by kernel_rfl) (fun _ _ _ h => h) (by rfl) ?_ (by assumption) ?_
    rotate_left
    · intro w hSw; unfold CT at hSw; go_simp; (try with_reducible rfl)
    simp only [Act.put, List.setIfInBounds_toArray, List.set_cons_zero, List.set_cons_succ]
    refine consL (i := 45) (d := 94) rfl (by kernel_rfl) (fun K' hK' => ?_)
    go_simp
    refine (HV2.out _ a' HK.out.t HK.out.mc).mono ?_
    rintro e w' ⟨rfl, hb'⟩
    replace HK : Hid (KT W w' m n a b a' W.heap.size (W.heap.size + 1) (W.heap.size + 1 + 1) px py pc #[.bool ext, .int .u32 (id : Int), .bool rtr, .string fd] #[.bool false, .int .u32 0, .bool false, .string ByteArray.empty]) := HK.out.on hb'
    clear hb' hHeld
    try go_wp2_with fail
    refine hK'.out _ _ HK.out.cells (fun hHeld => ?_)
    clear hK' K'
    refine takeL (i := 46) (d := 95) (v := ?_) rfl (by kernel_rfl) (by kernel_rfl) (by kernel_rfl) (fun _ _ _ h => h) (by rfl) ?_ (by assumption) ?_
    rotate_left
    · intro w hSw; unfold CT at hSw; go_simp; (try with_reducible rfl)
    simp only [Act.put, List.setIfInBounds_toArray, List.set_cons_zero, List.set_cons_succ]
    refine takeL (i := 47) (d := 96) (v := ?_) rfl (by kernel_rfl) (by kernel_rfl) (by kernel_rfl) (fun _ _ _ h => h) (by rfl) ?_ (by assumption) ?_
    rotate_left
    · intro w hSw; unfold CT at hSw; go_simp; (try with_reducible rfl)
    simp only [Act.put, List.setIfInBounds_toArray, List.set_cons_zero, List.set_cons_succ]
    refine takeL (i := 48) (d := 97) (v := ?_) rfl (by kernel_rfl) (by kernel_rfl) (by kernel_rfl) (fun _ _ _ h => h) (by rfl) ?_ (by assumption) ?_
    rotate_left
    · intro w hSw; unfold CT at hSw; go_simp; (try with_reducible rfl)
    simp only [Act.put, List.setIfInBounds_toArray, List.set_cons_zero, List.set_cons_succ]
    refine takeL (i := 49) (d := 98) (v := ?_) rfl (by kernel_rfl) (by kernel_rfl) (by kernel_rfl) (fun _ _ _ h => h) (by rfl) ?_ (by assumption) ?_
    rotate_left
    · intro w hSw; unfold CT at hSw; go_simp; (try with_reducible rfl)
    simp only [Act.put, List.setIfInBounds_toArray, List.set_cons_zero, List.set_cons_succ]
    refine consL (i := 50) (d := 99) rfl (by kernel_rfl) (fun K' hK' => ?_)
    go_simp
    refine (HV1.out _ a' HK.out.t HK.out.mc).mono ?_
    rintro e w' ⟨rfl, hb'⟩
    replace HK : Hid (KT W w' m n a b a' W.heap.size (W.heap.size + 1) (W.heap.size + 1 + 1) px py pc #[.bool ext, .int .u32 (id : Int), .bool rtr, .string fd] #[.bool false, .int .u32 0, .bool false, .string ByteArray.empty]) := HK.out.on hb'
    clear hb' hHeld
    try go_wp2_with fail
    refine hK'.out _ _ HK.out.cells (fun hHeld => ?_)
    clear hK' K'
    refine takeL (i := 51) (d := 100) (v := ?_) rfl (by kernel_rfl) (by kernel_rfl) (by kernel_rfl) (fun _ _ _ h => h) (by rfl) ?_ (by assumption) ?_
    rotate_left
    · intro w hSw; unfold CT at hSw; go_simp; (try with_reducible rfl)
    simp only [Act.put, List.setIfInBounds_toArray, List.set_cons_zero, List.set_cons_succ]
    refine takeL (i := 52) (d := 12) (v := ?_) rfl (by kernel_rfl) (by kernel_rfl) (by kernel_rfl) (fun _ _ _ h => h) (by rfl) ?_ (by assumption) ?_
    rotate_left
    · intro w hSw; unfold CT at hSw; go_simp; (try with_reducible rfl)
    simp only [Act.put, List.setIfInBounds_toArray, List.set_cons_zero, List.set_cons_succ]
    refine wpAnyH_done (by kernel_rfl) ?_ _
    go_wp2
    go_ret
    exact ⟨rfl, HK.out.t.below⟩
  | some fi =>
    have hv : fVal (some fi) d = .tuple #[.agg #[.bool false, .int .u32 (fi : Int), .bool false, .string d], .bool true] := rfl
    rw [hv]
    have hb5 : Below w4.heap.size w4 (w4.alloc (.cells #[.bool false, .int .u32 (fi : Int), .bool false, .string d] 29)) := (Below.refl _ _).alloc (Nat.le_refl _) _
    have HRx : Hid (RowT 29 (w4.alloc (.cells #[.bool false, .int .u32 (fi : Int), .bool false, .string d] 29)) w4.heap.size #[.bool false, .int .u32 (fi : Int), .bool false, .string d]) := RowT.new _ _ _
    replace HT : Hid (T12 W (w4.alloc (.cells #[.bool false, .int .u32 (fi : Int), .bool false, .string d] 29)) m n a b W.heap.size (W.heap.size + 1) (W.heap.size + 1 + 1) #[.bool ext, .int .u32 (id : Int), .bool rtr, .string fd]) := HT.out.on hb5
    clear hb5
    obtain ⟨y0, y1, y2, y3, y4, y5, y6, y7, y8, y9, y10⟩ := HY.out (w4.alloc (.cells #[.bool false, .int .u32 (fi : Int), .bool false, .string d] 29)) W.heap.size m a HT.out.ra
    obtain ⟨z0, z1, z2, z3, z4, z5, z6, z7, z8, z9, z10⟩ := HY.out (w4.alloc (.cells #[.bool false, .int .u32 (fi : Int), .bool false, .string d] 29)) (W.heap.size + 1) n b HT.out.rb
    go_wp2_with fail
    generalize (w4.alloc (.cells #[.bool false, .int .u32 (fi : Int), .bool false, .string d] 29)) = wX at HT HRx y0 y1 y2 y3 y4 y5 y6 y7 y8 y9 y10 z0 z1 z2 z3 z4 z5 z6 z7 z8 z9 z10 ⊢
    generalize w4.heap.size = px at HRx ⊢
    refine (HF2.out _ HT.out).mono ?_
    rintro e w5 ⟨rfl, hb5⟩
    replace HT : Hid (T12 W w5 m n a b W.heap.size (W.heap.size + 1) (W.heap.size + 1 + 1) #[.bool ext, .int .u32 (id : Int), .bool rtr, .string fd]) := HT.out.on hb5
    replace HRx : Hid (RowT 29 w5 px #[.bool false, .int .u32 (fi : Int), .bool false, .string d]) := HRx.out.on hb5
    clear hb5 HF2
    clear y0 y1 y2 y3 y4 y5 y6 y7 y8 y9 y10 z0 z1 z2 z3 z4 z5 z6 z7 z8 z9 z10
    rw [hv]
    have hb6 : Below w5.heap.size w5 (w5.alloc (.cells #[.bool false, .int .u32 (fi : Int), .bool false, .string d] 29)) := (Below.refl _ _).alloc (Nat.le_refl _) _
    have HRy : Hid (RowT 29 (w5.alloc (.cells #[.bool false, .int .u32 (fi : Int), .bool false, .string d] 29)) w5.heap.size #[.bool false, .int .u32 (fi : Int), .bool false, .string d]) := RowT.new _ _ _
    replace HT : Hid (T12 W (w5.alloc (.cells #[.bool false, .int .u32 (fi : Int), .bool false, .string d] 29)) m n a b W.heap.size (W.heap.size + 1) (W.heap.size + 1 + 1) #[.bool ext, .int .u32 (id : Int), .bool rtr, .string fd]) := HT.out.on hb6
    replace HRx : Hid (RowT 29 (w5.alloc (.cells #[.bool false, .int .u32 (fi : Int), .bool false, .string d] 29)) px #[.bool false, .int .u32 (fi : Int), .bool false, .string d]) := HRx.out.on hb6
    clear hb6
    obtain ⟨y0, y1, y2, y3, y4, y5, y6, y7, y8, y9, y10⟩ := HY.out (w5.alloc (.cells #[.bool false, .int .u32 (fi : Int), .bool false, .string d] 29)) W.heap.size m a HT.out.ra
    obtain ⟨z0, z1, z2, z3, z4, z5, z6, z7, z8, z9, z10⟩ := HY.out (w5.alloc (.cells #[.bool false, .int .u32 (fi : Int), .bool false, .string d] 29)) (W.heap.size + 1) n b HT.out.rb
    go_wp2_with fail
    generalize w5.alloc (.cells #[.bool false, .int .u32 (fi : Int), .bool false, .string d] 29) = wY at HT HRx HRy y0 y1 y2 y3 y4 y5 y6 y7 y8 y9 y10 z0 z1 z2 z3 z4 z5 z6 z7 z8 z9 z10 ⊢
    generalize w5.heap.size = py at HRy ⊢
    refine (HCp.out _ HT.out).mono ?_
    rintro e w6 ⟨a', rfl, hm', hb6⟩
    clear y0 y1 y2 y3 y4 y5 y6 y7 y8 y9 y10 z0 z1 z2 z3 z4 z5 z6 z7 z8 z9 z10
    have e6 : mV m a' = .agg #[.int .i64 m.level, .int .i64 m.nodes, .int .i64 m.cycles, .int .i64 m.length, .int .i64 m.enable, .int .i64 m.unit, .int .i64 m.init, .int .u32 (m.ref : Int), .slice a'.s1 m.masters.length a'.c1, .slice a'.s2 m.messages.length a'.c2, .slice a'.s3 m.windows.length a'.c3] := rfl
    rw [e6]
    have hb7 : Below w6.heap.size w6 (w6.alloc (.cells #[.int .i64 m.level, .int .i64 m.nodes, .int .i64 m.cycles, .int .i64 m.length, .int .i64 m.enable, .int .i64 m.unit, .int .i64 m.init, .int .u32 (m.ref : Int), .slice a'.s1 m.masters.length a'.c1, .slice a'.s2 m.messages.length a'.c2, .slice a'.s3 m.windows.length a'.c3] 27)) := (Below.refl _ _).alloc (Nat.le_refl _) _
    have HRc : Hid (RowT 27 (w6.alloc (.cells #[.int .i64 m.level, .int .i64 m.nodes, .int .i64 m.cycles, .int .i64 m.length, .int .i64 m.enable, .int .i64 m.unit, .int .i64 m.init, .int .u32 (m.ref : Int), .slice a'.s1 m.masters.length a'.c1, .slice a'.s2 m.messages.length a'.c2, .slice a'.s3 m.windows.length a'.c3] 27)) w6.heap.size (mCs m a')) := RowT.new _ _ _
    have HMc : Hid (MIn (w6.alloc (.cells #[.int .i64 m.level, .int .i64 m.nodes, .int .i64 m.cycles, .int .i64 m.length, .int .i64 m.enable, .int .i64 m.unit, .int .i64 m.init, .int .u32 (m.ref : Int), .slice a'.s1 m.masters.length a'.c1, .slice a'.s2 m.messages.length a'.c2, .slice a'.s3 m.windows.length a'.c3] 27)) m a') := hm'.on hb7
    replace HT : Hid (T12 W (w6.alloc (.cells #[.int .i64 m.level, .int .i64 m.nodes, .int .i64 m.cycles, .int .i64 m.length, .int .i64 m.enable, .int .i64 m.unit, .int .i64 m.init, .int .u32 (m.ref : Int), .slice a'.s1 m.masters.length a'.c1, .slice a'.s2 m.messages.length a'.c2, .slice a'.s3 m.windows.length a'.c3] 27)) m n a b W.heap.size (W.heap.size + 1) (W.heap.size + 1 + 1) #[.bool ext, .int .u32 (id : Int), .bool rtr, .string fd]) := (HT.out.on hb6).on hb7
    replace HRx : Hid (RowT 29 (w6.alloc (.cells #[.int .i64 m.level, .int .i64 m.nodes, .int .i64 m.cycles, .int .i64 m.length, .int .i64 m.enable, .int .i64 m.unit, .int .i64 m.init, .int .u32 (m.ref : Int), .slice a'.s1 m.masters.length a'.c1, .slice a'.s2 m.messages.length a'.c2, .slice a'.s3 m.windows.length a'.c3] 27)) px #[.bool false, .int .u32 (fi : Int), .bool false, .string d]) := (HRx.out.on hb6).on hb7
    replace HRy : Hid (RowT 29 (w6.alloc (.cells #[.int .i64 m.level, .int .i64 m.nodes, .int .i64 m.cycles, .int .i64 m.length, .int .i64 m.enable, .int .i64 m.unit, .int .i64 m.init, .int .u32 (m.ref : Int), .slice a'.s1 m.masters.length a'.c1, .slice a'.s2 m.messages.length a'.c2, .slice a'.s3 m.windows.length a'.c3] 27)) py #[.bool false, .int .u32 (fi : Int), .bool false, .string d]) := (HRy.out.on hb6).on hb7
    clear hb6 hb7 hm' e6 HCp
    go_wp2_with fail
    generalize w6.alloc (.cells #[.int .i64 m.level, .int .i64 m.nodes, .int .i64 m.cycles, .int .i64 m.length, .int .i64 m.enable, .int .i64 m.unit, .int .i64 m.init, .int .u32 (m.ref : Int), .slice a'.s1 m.masters.length a'.c1, .slice a'.s2 m.messages.length a'.c2, .slice a'.s3 m.windows.length a'.c3] 27) = wZ at HT HRx HRy HRc HMc ⊢
    generalize w6.heap.size = pc at HRc ⊢
    have HK : Hid (KT W wZ m n a b a' W.heap.size (W.heap.size + 1) (W.heap.size + 1 + 1) px py pc #[.bool ext, .int .u32 (id : Int), .bool rtr, .string fd] #[.bool false, .int .u32 (fi : Int), .bool false, .string d]) := ⟨HT.out, HMc.out, HRc.out, HRx.out, HRy.out⟩
    clear HT HMc HRc HRx HRy
    refine wp_region_held_drew (S := fun w' => CT w' m n a b a' W.heap.size (W.heap.size + 1) (W.heap.size + 1 + 1) px py pc (.bool ext) (.int .u32 (id : Int)) (.bool rtr) (.string fd) (.bool false) (.int .u32 (fi : Int)) (.bool false) (.string d)) (by kernel_rfl) (HK.out.on (Below.refl _ _).drew).cells (fun hHeld => ?_)
    replace HK : Hid (KT W _ m n a b a' W.heap.size (W.heap.size + 1) (W.heap.size + 1 + 1) px py pc #[.bool ext, .int .u32 (id : Int), .bool rtr, .string fd] #[.bool false, .int .u32 (fi : Int), .bool false, .string d]) := HK.out.on (Below.refl _ _).drew
    refine takeL (i := 0) (d := 49) (v := ?_) rfl (by kernel_rfl) (by kernel_rfl) (by kernel_rfl) (fun _ _ _ h => h) (by rfl) ?_ (by assumption) ?_
    rotate_left
    · intro w hSw; unfold CT at hSw; go_simp; (try with_reducible rfl)
    simp only [Act.put, List.setIfInBounds_toArray, List.set_cons_zero, List.set_cons_succ]
    refine takeL (i := 2) (d := 51) (v := ?_) rfl (by kernel_rfl) (by kernel_rfl) (by kernel_rfl) (fun _ _ _ h => h) (by rfl) ?_ (by assumption) ?_
    rotate_left
    · intro w hSw; unfold CT at hSw; go_simp; (try with_reducible rfl)
    simp only [Act.put, List.setIfInBounds_toArray, List.set_cons_zero, List.set_cons_succ]
    refine consL (i := 1) (d := 50) rfl (by kernel_rfl) (fun K' hK' => ?_)
    go_simp
    refine (HI1.out _ HK.out.t).mono ?_
    rintro e w' ⟨rfl, hb'⟩
    replace HK : Hid (KT W w' m n a b a' W.heap.size (W.heap.size + 1) (W.heap.size + 1 + 1) px py pc #[.bool ext, .int .u32 (id : Int), .bool rtr, .string fd] #[.bool false, .int .u32 (fi : Int), .bool false, .string d]) := HK.out.on hb'
    clear hb' hHeld
    try go_wp2_with fail
    refine hK'.out _ _ HK.out.cells (fun hHeld => ?_)
    clear hK' K'
    refine consL (i := 3) (d := 52) rfl (by kernel_rfl) (fun K' hK' => ?_)
    go_simp
    refine (HI2.out _ HK.out.t).mono ?_
    rintro e w' ⟨rfl, hb'⟩
    replace HK : Hid (KT W w' m n a b a' W.heap.size (W.heap.size + 1) (W.heap.size + 1 + 1) px py pc #[.bool ext, .int .u32 (id : Int), .bool rtr, .string fd] #[.bool false, .int .u32 (fi : Int), .bool false, .string d]) := HK.out.on hb'
    clear hb' hHeld
    try go_wp2_with fail
    refine hK'.out _ _ HK.out.cells (fun hHeld => ?_)
    clear hK' K'
    refine takeL (i := 4) (d := 53) (v := ?_) rfl (by kernel_rfl) (by kernel_rfl) (by kernel_rfl) (fun _ _ _ h => h) (by rfl) ?_ (by assumption) ?_
    rotate_left
    · intro w hSw; unfold CT at hSw; go_simp; (try with_reducible rfl)
    simp only [Act.put, List.setIfInBounds_toArray, List.set_cons_zero, List.set_cons_succ]
    refine takeL (i := 5) (d := 54) (v := ?_) rfl (by kernel_rfl) (by kernel_rfl) (by kernel_rfl) (fun _ _ _ h => h) (by rfl) ?_ (by assumption) ?_
    rotate_left
    · intro w hSw; unfold CT at hSw; go_simp; (try with_reducible rfl)
    simp only [Act.put, List.setIfInBounds_toArray, List.set_cons_zero, List.set_cons_succ]
    refine takeL (i := 6) (d := 55) (v := ?_) rfl (by kernel_rfl) (by kernel_rfl) (by kernel_rfl) (fun _ _ _ h => h) (by rfl) ?_ (by assumption) ?_
    rotate_left
    · intro w hSw; unfold CT at hSw; go_simp; (try with_reducible rfl)
    simp only [Act.put, List.setIfInBounds_toArray, List.set_cons_zero, List.set_cons_succ]
    refine takeL (i := 7) (d := 56) (v := ?_) rfl (by kernel_rfl) (by kernel_rfl) (by kernel_rfl) (fun _ _ _ h => h) (by rfl) ?_ (by assumption) ?_
    rotate_left
    · intro w hSw; unfold CT at hSw; go_simp; (try with_reducible rfl)
    simp only [Act.put, List.setIfInBounds_toArray, List.set_cons_zero, List.set_cons_succ]
    refine takeL (i := 9) (d := 58) (v := ?_) rfl (by kernel_rfl) (by kernel_rfl) (by kernel_rfl) (fun _ _ _ h => h) (by rfl) ?_ (by assumption) ?_
    rotate_left
    · intro w hSw; unfold CT at hSw; go_simp; (try with_reducible rfl)
    simp only [Act.put, List.setIfInBounds_toArray, List.set_cons_zero, List.set_cons_succ]
    refine takeL (i := 10) (d := 59) (v := ?_) rfl (by kernel_rfl) (by kernel_rfl) (by kernel_rfl) (fun _ _ _ h => h) (by rfl) ?_ (by assumption) ?_
    rotate_left
    · intro w hSw; unfold CT at hSw; go_simp; (try with_reducible rfl)
    simp only [Act.put, List.setIfInBounds_toArray, List.set_cons_zero, List.set_cons_succ]
    refine consL (i := 8) (d := 57) rfl (by kernel_rfl) (fun K' hK' => ?_)
    go_simp
    refine (HS1.out _ HK.out.t).mono ?_
    rintro e w' ⟨rfl, hb'⟩
    replace HK : Hid (KT W w' m n a b a' W.heap.size (W.heap.size + 1) (W.heap.size + 1 + 1) px py pc #[.bool ext, .int .u32 (id : Int), .bool rtr, .string fd] #[.bool false, .int .u32 (fi : Int), .bool false, .string d]) := HK.out.on hb'
    clear hb' hHeld
    try go_wp2_with fail
    refine hK'.out _ _ HK.out.cells (fun hHeld => ?_)
    clear hK' K'
    refine consL (i := 11) (d := 60) rfl (by kernel_rfl) (fun K' hK' => ?_)
    go_simp
    refine (HS2.out _ HK.out.t).mono ?_
    rintro e w' ⟨rfl, hb'⟩
    replace HK : Hid (KT W w' m n a b a' W.heap.size (W.heap.size + 1) (W.heap.size + 1 + 1) px py pc #[.bool ext, .int .u32 (id : Int), .bool rtr, .string fd] #[.bool false, .int .u32 (fi : Int), .bool false, .string d]) := HK.out.on hb'
    clear hb' hHeld
    try go_wp2_with fail
    refine hK'.out _ _ HK.out.cells (fun hHeld => ?_)
    clear hK' K'
    refine takeL (i := 12) (d := 61) (v := ?_) rfl (by kernel_rfl) (by kernel_rfl) (by kernel_rfl) (fun _ _ _ h => h) (by rfl) ?_ (by assumption) ?_
    rotate_left
    · intro w hSw; unfold CT at hSw; go_simp; (try with_reducible rfl)
    simp only [Act.put, List.setIfInBounds_toArray, List.set_cons_zero, List.set_cons_succ]
    refine takeL (i := 13) (d := 62) (v := ?_) rfl (by kernel_rfl) (by kernel_rfl) (by kernel_rfl) (fun _ _ _ h => h) (by rfl) ?_ (by assumption) ?_
    rotate_left
    · intro w hSw; unfold CT at hSw; go_simp; (try with_reducible rfl)
    simp only [Act.put, List.setIfInBounds_toArray, List.set_cons_zero, List.set_cons_succ]
    refine takeL (i := 14) (d := 63) (v := ?_) rfl (by kernel_rfl) (by kernel_rfl) (by kernel_rfl) (fun _ _ _ h => h) (by rfl) ?_ (by assumption) ?_
    rotate_left
    · intro w hSw; unfold CT at hSw; go_simp; (try with_reducible rfl)
    simp only [Act.put, List.setIfInBounds_toArray, List.set_cons_zero, List.set_cons_succ]
    refine takeL (i := 15) (d := 64) (v := ?_) rfl (by kernel_rfl) (by kernel_rfl) (by kernel_rfl) (fun _ _ _ h => h) (by rfl) ?_ (by assumption) ?_
    rotate_left
    · intro w hSw; unfold CT at hSw; go_simp; (try with_reducible rfl)
    simp only [Act.put, List.setIfInBounds_toArray, List.set_cons_zero, List.set_cons_succ]
    refine takeL (i := 16) (d := 65) (v := ?_) rfl (by kernel_rfl) (by kernel_rfl) (by kernel_rfl) (fun _ _ _ h => h) (by rfl) ?_ (by assumption) ?_
    rotate_left
    · intro w hSw; unfold CT at hSw; go_simp; (try with_reducible rfl)
    simp only [Act.put, List.setIfInBounds_toArray, List.set_cons_zero, List.set_cons_succ]
    refine takeL (i := 18) (d := 67) (v := ?_) rfl (by kernel_rfl) (by kernel_rfl) (by kernel_rfl) (fun _ _ _ h => h) (by rfl) ?_ (by assumption) ?_
    rotate_left
    · intro w hSw; unfold CT at hSw; go_simp; (try with_reducible rfl)
    simp only [Act.put, List.setIfInBounds_toArray, List.set_cons_zero, List.set_cons_succ]
    refine takeL (i := 19) (d := 68) (v := ?_) rfl (by kernel_rfl) (by kernel_rfl) (by kernel_rfl) (fun _ _ _ h => h) (by rfl) ?_ (by assumption) ?_
    rotate_left
    · intro w hSw; unfold CT at hSw; go_simp; (try with_reducible rfl)
    simp only [Act.put, List.setIfInBounds_toArray, List.set_cons_zero, List.set_cons_succ]
    refine consL (i := 17) (d := 66) rfl (by kernel_rfl) (fun K' hK' => ?_)
    go_simp
    refine (HG1.out _ HK.out.t).mono ?_
    rintro e w' ⟨rfl, hb'⟩
    replace HK : Hid (KT W w' m n a b a' W.heap.size (W.heap.size + 1) (W.heap.size + 1 + 1) px py pc #[.bool ext, .int .u32 (id : Int), .bool rtr, .string fd] #[.bool false, .int .u32 (fi : Int), .bool false, .string d]) := HK.out.on hb'
    clear hb' hHeld
    try go_wp2_with fail
    refine hK'.out _ _ HK.out.cells (fun hHeld => ?_)
    clear hK' K'
    refine consL (i := 20) (d := 69) rfl (by kernel_rfl) (fun K' hK' => ?_)
    go_simp
    refine (HG2.out _ HK.out.t).mono ?_
    rintro e w' ⟨rfl, hb'⟩
    replace HK : Hid (KT W w' m n a b a' W.heap.size (W.heap.size + 1) (W.heap.size + 1 + 1) px py pc #[.bool ext, .int .u32 (id : Int), .bool rtr, .string fd] #[.bool false, .int .u32 (fi : Int), .bool false, .string d]) := HK.out.on hb'
    clear hb' hHeld
    try go_wp2_with fail
    refine hK'.out _ _ HK.out.cells (fun hHeld => ?_)
    clear hK' K'
    refine takeL (i := 21) (d := 70) (v := ?_) rfl (by kernel_rfl) (by kernel_rfl) (by kernel_rfl) (fun _ _ _ h => h) (by rfl) ?_ (by assumption) ?_
    rotate_left
    · intro w hSw; unfold CT at hSw; go_simp; (try with_reducible rfl)
    simp only [Act.put, List.setIfInBounds_toArray, List.set_cons_zero, List.set_cons_succ]
    refine takeL (i := 22) (d := 71) (v := ?_) rfl (by kernel_rfl) (by kernel_rfl) (by kernel_rfl) (fun _ _ _ h => h) (by rfl) ?_ (by assumption) ?_
    rotate_left
    · intro w hSw; unfold CT at hSw; go_simp; (try with_reducible rfl)
    simp only [Act.put, List.setIfInBounds_toArray, List.set_cons_zero, List.set_cons_succ]
    refine takeL (i := 23) (d := 72) (v := ?_) rfl (by kernel_rfl) (by kernel_rfl) (by kernel_rfl) (fun _ _ _ h => h) (by rfl) ?_ (by assumption) ?_
    rotate_left
    · intro w hSw; unfold CT at hSw; go_simp; (try with_reducible rfl)
    simp only [Act.put, List.setIfInBounds_toArray, List.set_cons_zero, List.set_cons_succ]
    refine takeL (i := 24) (d := 73) (v := ?_) rfl (by kernel_rfl) (by kernel_rfl) (by kernel_rfl) (fun _ _ _ h => h) (by rfl) ?_ (by assumption) ?_
    rotate_left
    · intro w hSw; unfold CT at hSw; go_simp; (try with_reducible rfl)
    simp only [Act.put, List.setIfInBounds_toArray, List.set_cons_zero, List.set_cons_succ]
    refine takeL (i := 25) (d := 74) (v := ?_) rfl (by kernel_rfl) (by kernel_rfl) (by kernel_rfl) (fun _ _ _ h => h) (by rfl) ?_ (by assumption) ?_
    rotate_left
    · intro w hSw; unfold CT at hSw; go_simp; (try with_reducible rfl)
    simp only [Act.put, List.setIfInBounds_toArray, List.set_cons_zero, List.set_cons_succ]
    refine takeL (i := 26) (d := 75) (v := ?_) rfl (by kernel_rfl) (by kernel_rfl) (by kernel_rfl) (fun _ _ _ h => h) (by rfl) ?_ (by assumption) ?_
    rotate_left
    · intro w hSw; unfold CT at hSw; go_simp; (try with_reducible rfl)
    simp only [Act.put, List.setIfInBounds_toArray, List.set_cons_zero, List.set_cons_succ]
    refine takeL (i := 27) (d := 76) (v := ?_) rfl (by kernel_rfl) (by kernel_rfl) (by kernel_rfl) (fun _ _ _ h => h) (by rfl) ?_ (by assumption) ?_
    rotate_left
    · intro w hSw; unfold CT at hSw; go_simp; (try with_reducible rfl)
    simp only [Act.put, List.setIfInBounds_toArray, List.set_cons_zero, List.set_cons_succ]
    refine takeL (i := 28) (d := 77) (v := ?_) rfl (by kernel_rfl) (by kernel_rfl) (by kernel_rfl) (fun _ _ _ h => h) (by rfl) ?_ (by assumption) ?_
    rotate_left
    · intro w hSw; unfold CT at hSw; go_simp; (try with_reducible rfl)
    simp only [Act.put, List.setIfInBounds_toArray, List.set_cons_zero, List.set_cons_succ]
    refine takeL (i := 29) (d := 78) (v := ?_) rfl (by kernel_rfl) (by kernel_rfl) (by kernel_rfl) (fun _ _ _ h => h) (by rfl) ?_ (by assumption) ?_
    rotate_left
    · intro w hSw; unfold CT at hSw; go_simp; (try with_reducible rfl)
    simp only [Act.put, List.setIfInBounds_toArray, List.set_cons_zero, List.set_cons_succ]
    refine takeL (i := 30) (d := 79) (v := ?_) rfl (by kernel_rfl) (by kernel_rfl) (by kernel_rfl) (fun _ _ _ h => h) (by rfl) ?_ (by assumption) ?_
    rotate_left
    · intro w hSw; unfold CT at hSw; go_simp; (try with_reducible rfl)
    simp only [Act.put, List.setIfInBounds_toArray, List.set_cons_zero, List.set_cons_succ]
    refine takeL (i := 31) (d := 80) (v := ?_) rfl (by kernel_rfl) (by kernel_rfl) (by kernel_rfl) (fun _ _ _ h => h) (by rfl) ?_ (by assumption) ?_
    rotate_left
    · intro w hSw; unfold CT at hSw; go_simp; (try with_reducible rfl)
    simp only [Act.put, List.setIfInBounds_toArray, List.set_cons_zero, List.set_cons_succ]
    refine takeL (i := 32) (d := 81) (v := ?_) rfl (by kernel_rfl) (by kernel_rfl) (by kernel_rfl) (fun _ _ _ h => h) (by rfl) ?_ (by assumption) ?_
    rotate_left
    · intro w hSw; unfold CT at hSw; go_simp; (try with_reducible rfl)
    simp only [Act.put, List.setIfInBounds_toArray, List.set_cons_zero, List.set_cons_succ]
    refine takeL (i := 33) (d := 82) (v := ?_) rfl (by kernel_rfl) (by kernel_rfl) (by kernel_rfl) (fun _ _ _ h => h) (by rfl) ?_ (by assumption) ?_
    rotate_left
    · intro w hSw; unfold CT at hSw; go_simp; (try with_reducible rfl)
    simp only [Act.put, List.setIfInBounds_toArray, List.set_cons_zero, List.set_cons_succ]
    refine takeL (i := 34) (d := 83) (v := ?_) rfl (by kernel_rfl) (by kernel_rfl) (by kernel_rfl) (fun _ _ _ h => h) (by rfl) ?_ (by assumption) ?_
    rotate_left
    · intro w hSw; unfold CT at hSw; go_simp; (try with_reducible rfl)
    simp only [Act.put, List.setIfInBounds_toArray, List.set_cons_zero, List.set_cons_succ]
    refine takeL (i := 35) (d := 84) (v := ?_) rfl (by kernel_rfl) (by kernel_rfl) (by kernel_rfl) (fun _ _ _ h => h) (by rfl) ?_ (by assumption) ?_
    rotate_left
    · intro w hSw; unfold CT at hSw; go_simp; (try with_reducible rfl)
    simp only [Act.put, List.setIfInBounds_toArray, List.set_cons_zero, List.set_cons_succ]
    refine takeL (i := 37) (d := 86) (v := ?_) rfl (by kernel_rfl) (by kernel_rfl) (by kernel_rfl) (fun _ _ _ h => h) (by rfl) ?_ (by assumption) ?_
    rotate_left
    · intro w hSw; unfold CT at hSw; go_simp; (try with_reducible rfl)
    simp only [Act.put, List.setIfInBounds_toArray, List.set_cons_zero, List.set_cons_succ]
    refine takeL (i := 38) (d := 87) (v := ?_) rfl (by kernel_rfl) (by kernel_rfl) (by kernel_rfl) (fun _ _ _ h => h) (by rfl) ?_ (by assumption) ?_
    rotate_left
    · intro w hSw; unfold CT at hSw; go_simp; (try with_reducible rfl)
    simp only [Act.put, List.setIfInBounds_toArray, List.set_cons_zero, List.set_cons_succ]
    refine consL (i := 36) (d := 85) rfl (by kernel_rfl) (fun K' hK' => ?_)
    go_simp
    refine (HR1.out _ HK.out.t).mono ?_
    rintro e w' ⟨rfl, hb'⟩
    replace HK : Hid (KT W w' m n a b a' W.heap.size (W.heap.size + 1) (W.heap.size + 1 + 1) px py pc #[.bool ext, .int .u32 (id : Int), .bool rtr, .string fd] #[.bool false, .int .u32 (fi : Int), .bool false, .string d]) := HK.out.on hb'
    clear hb' hHeld
    try go_wp2_with fail
    refine hK'.out _ _ HK.out.cells (fun hHeld => ?_)
    clear hK' K'
    refine consL (i := 39) (d := 88) rfl (by kernel_rfl) (fun K' hK' => ?_)
    go_simp
    refine (HR2.out _ HK.out.t).mono ?_
    rintro e w' ⟨rfl, hb'⟩
    replace HK : Hid (KT W w' m n a b a' W.heap.size (W.heap.size + 1) (W.heap.size + 1 + 1) px py pc #[.bool ext, .int .u32 (id : Int), .bool rtr, .string fd] #[.bool false, .int .u32 (fi : Int), .bool false, .string d]) := HK.out.on hb'
    clear hb' hHeld
    try go_wp2_with fail
    refine hK'.out _ _ HK.out.cells (fun hHeld => ?_)
    clear hK' K'
    refine takeL (i := 40) (d := 89) (v := ?_) rfl (by kernel_rfl) (by kernel_rfl) (by kernel_rfl) (fun _ _ _ h => h) (by rfl) ?_ (by assumption) ?_
    rotate_left
    · intro w hSw; unfold CT at hSw; go_simp; (try with_reducible rfl)
    simp only [Act.put, List.setIfInBounds_toArray, List.set_cons_zero, List.set_cons_succ]
    refine takeL (i := 41) (d := 90) (v := ?_) rfl (by kernel_rfl) (by kernel_rfl) (by kernel_rfl) (fun _ _ _ h => h) (by rfl) ?_ (by assumption) ?_
    rotate_left
    · intro w hSw; unfold CT at hSw; go_simp; (try with_reducible rfl)
    simp only [Act.put, List.setIfInBounds_toArray, List.set_cons_zero, List.set_cons_succ]
    refine takeL (i := 42) (d := 91) (v := ?_) rfl (by kernel_rfl) (by kernel_rfl) (by kernel_rfl) (fun _ _ _ h => h) (by rfl) ?_ (by assumption) ?_
    rotate_left
    · intro w hSw; unfold CT at hSw; go_simp; (try with_reducible rfl)
    simp only [Act.put, List.setIfInBounds_toArray, List.set_cons_zero, List.set_cons_succ]
    refine takeL (i := 43) (d := 92) (v := ?_) rfl (by kernel_rfl) (by kernel_rfl) (by kernel_rfl) (fun _ _ _ h => h) (by rfl) ?_ (by assumption) ?_
    rotate_left
    · intro w hSw; unfold CT at hSw; go_simp; (try with_reducible rfl)
    simp only [Act.put, List.setIfInBounds_toArray, List.set_cons_zero, List.set_cons_succ]
    refine takeL (i := 44) (d := 93) (v := ?_) rfl (by kernel_rfl) (by kernel_rfl) (by kernel_rfl) (fun _ _ _ h => h) (by rfl) ?_ (by assumption) ?_
    rotate_left
    · intro w hSw; unfold CT at hSw; go_simp; (try with_reducible rfl)
    simp only [Act.put, List.setIfInBounds_toArray, List.set_cons_zero, List.set_cons_succ]
    refine consL (i := 45) (d := 94) rfl (by kernel_rfl) (fun K' hK' => ?_)
    go_simp
    refine (HV2.out _ a' HK.out.t HK.out.mc).mono ?_
    rintro e w' ⟨rfl, hb'⟩
    replace HK : Hid (KT W w' m n a b a' W.heap.size (W.heap.size + 1) (W.heap.size + 1 + 1) px py pc #[.bool ext, .int .u32 (id : Int), .bool rtr, .string fd] #[.bool false, .int .u32 (fi : Int), .bool false, .string d]) := HK.out.on hb'
    clear hb' hHeld
    try go_wp2_with fail
    refine hK'.out _ _ HK.out.cells (fun hHeld => ?_)
    clear hK' K'
    refine takeL (i := 46) (d := 95) (v := ?_) rfl (by kernel_rfl) (by kernel_rfl) (by kernel_rfl) (fun _ _ _ h => h) (by rfl) ?_ (by assumption) ?_
    rotate_left
    · intro w hSw; unfold CT at hSw; go_simp; (try with_reducible rfl)
    simp only [Act.put, List.setIfInBounds_toArray, List.set_cons_zero, List.set_cons_succ]
    refine takeL (i := 47) (d := 96) (v := ?_) rfl (by kernel_rfl) (by kernel_rfl) (by kernel_rfl) (fun _ _ _ h => h) (by rfl) ?_ (by assumption) ?_
    rotate_left
    · intro w hSw; unfold CT at hSw; go_simp; (try with_reducible rfl)
    simp only [Act.put, List.setIfInBounds_toArray, List.set_cons_zero, List.set_cons_succ]
    refine takeL (i := 48) (d := 97) (v := ?_) rfl (by kernel_rfl) (by kernel_rfl) (by kernel_rfl) (fun _ _ _ h => h) (by rfl) ?_ (by assumption) ?_
    rotate_left
    · intro w hSw; unfold CT at hSw; go_simp; (try with_reducible rfl)
    simp only [Act.put, List.setIfInBounds_toArray, List.set_cons_zero, List.set_cons_succ]
    refine takeL (i := 49) (d := 98) (v := ?_) rfl (by kernel_rfl) (by kernel_rfl) (by kernel_rfl) (fun _ _ _ h => h) (by rfl) ?_ (by assumption) ?_
    rotate_left
    · intro w hSw; unfold CT at hSw; go_simp; (try with_reducible rfl)
    simp only [Act.put, List.setIfInBounds_toArray, List.set_cons_zero, List.set_cons_succ]
    refine consL (i := 50) (d := 99) rfl (by kernel_rfl) (fun K' hK' => ?_)
    go_simp
    refine (HV1.out _ a' HK.out.t HK.out.mc).mono ?_
    rintro e w' ⟨rfl, hb'⟩
    replace HK : Hid (KT W w' m n a b a' W.heap.size (W.heap.size + 1) (W.heap.size + 1 + 1) px py pc #[.bool ext, .int .u32 (id : Int), .bool rtr, .string fd] #[.bool false, .int .u32 (fi : Int), .bool false, .string d]) := HK.out.on hb'
    clear hb' hHeld
    try go_wp2_with fail
    refine hK'.out _ _ HK.out.cells (fun hHeld => ?_)
    clear hK' K'
    refine takeL (i := 51) (d := 100) (v := ?_) rfl (by kernel_rfl) (by kernel_rfl) (by kernel_rfl) (fun _ _ _ h => h) (by rfl) ?_ (by assumption) ?_
    rotate_left
    · intro w hSw; unfold CT at hSw; go_simp; (try with_reducible rfl)
    simp only [Act.put, List.setIfInBounds_toArray, List.set_cons_zero, List.set_cons_succ]
    refine takeL (i := 52) (d := 12) (v := ?_) rfl (by kernel_rfl) (by kernel_rfl) (by kernel_rfl) (fun _ _ _ h => h) (by rfl) ?_ (by assumption) ?_
    rotate_left
    · intro w hSw; unfold CT at hSw; go_simp; (try with_reducible rfl)
    simp only [Act.put, List.setIfInBounds_toArray, List.set_cons_zero, List.set_cons_succ]
    refine wpAnyH_done (by kernel_rfl) ?_ _
    go_wp2
    go_ret
    exact ⟨rfl, HK.out.t.below⟩
end Go.Proofs.YthknkolnalobjaaDoor.matrixTells
