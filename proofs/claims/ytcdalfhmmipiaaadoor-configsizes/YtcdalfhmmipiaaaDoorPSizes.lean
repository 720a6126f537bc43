/- ConfigSizes: a matrix of few entries has so many bytes as its lists ask for (others are let by); no condition. -/
import Derived.Test.YtcdalfhmmipiaaaDoorP6
import Derived.ProofKit
import Derived.OpenShut
namespace Go.Proofs.YtcdalfhmmipiaaaDoor.configSizes
open Go.ChangeShapes Go.WideShapes Go.ChangeAt Go.RowKit
set_option linter.unusedVariables false
variable {Q : World → Prop}
set_option maxRecDepth 100000 in
set_option maxHeartbeats 4000000 in
theorem walkA (hQ : ∀ w w', Q w → Below w.heap.size w w' → Q w') (S : ConfSpec Q) (m : Mx.M) (a : Ma) {W0 : World} (hm : MIn W0 m a) (hwf : Mx.Wf m) (W : World) (hw0 : W = W0) (hW : Q W) :
    Calls Tryd.prog 6 #[mV m a] W fun e w' => e = .returned (.bool true) ∧ Below W.heap.size W w' := by
  subst hw0
  have HQ : Hid (∀ w, Below W.heap.size W w → Q w) := fun w hb => hQ W w hW hb
  have HK : Hid (∀ w, Below W.heap.size W w → Calls Tryd.prog 9 #[] w fun e w' => e = .returned (.bool true) ∧ Below w.heap.size w w') := fun w hb => known13_any hQ S w (HQ.out _ hb)
  have HPa : Hid (∀ w b, Below W.heap.size W w → b.length ≤ 1000 → Calls Tryd.prog 12 #[.string ⟨b.toArray⟩] w fun e w' => Told b e w' ∧ Below w.heap.size w w') := fun w b h hl => S.parse w b (HQ.out _ h) hl
  have HPr : Hid (∀ w, MIn w m a → Below W.heap.size W w → Mx.Small m → Calls Tryd.prog 11 #[mV m a] w fun e w' => e = .returned (.string ⟨(Pq.pr m).toArray⟩) ∧ Below w.heap.size w w') := fun w h hb hs => S.print w m a (HQ.out _ hb) h hs hwf
  have HSz : Hid (∀ w, MIn w m a → Below W.heap.size W w → Mx.Small m → Calls Tryd.prog 14 #[mV m a] w fun e w' => e = .returned (.int .i64 ((Pq.pr m).length : Int)) ∧ Below w.heap.size w w') := fun w h hb hs => S.size w m a (HQ.out _ hb) h hs hwf
  have HX : Hid (Bx W (W.alloc (.cells (mCs m a) 27)) W.heap.size m a) := Bx.mk' hm
  clear hm hwf hQ hW
  go_enter Tryd.func6, Tryd.ntmps6
  go_wp2_with fail
  refine (HK.out _ HX.out.below).mono ?_
  rintro e w1 ⟨rfl, hb⟩
  replace HX : Hid (Bx W w1 W.heap.size m a) := HX.out.on hb
  clear hb HK
  obtain ⟨y0, y1, y2, y3, y4, y5, y6, y7, y8, y9, y10⟩ := HX.out.row.mat
  go_wp2_with fail
  refine (few13_any w1 m a).mono ?_
  rintro e w2 ⟨rfl, hb⟩
  replace HX : Hid (Bx W w2 W.heap.size m a) := HX.out.on hb
  clear y0 y1 y10 y2 y3 y4 y5 y6 y7 y8 y9
  clear hb
  cases hfw : Mx.few m
  · go_wp2
    go_ret
    exact ⟨rfl, HX.out.below⟩
  have HS : Hid (Mx.Small m) := Mx.few_small hfw
  have hl1 : m.masters.length ≤ 10 ∧ m.messages.length ≤ 20 ∧ m.windows.length ≤ 25 := by simp [Mx.few] at hfw; omega
  have HI : Hid (∀ w, MIn w m a → Calls Tryd.prog 17 #[mV m a] w fun e w' => e = .returned (.bool (Mx.is m)) ∧ Below w.heap.size w w') := fun w h => ris_any w m a h HS.out
  have hle := Pq.pr_len_le m
  have hln : Mx.is m = true → (Pq.pr m).length = 15 + m.masters.length + 4 * m.messages.length + 8 * m.windows.length := fun h => by rw [Pq.pr_is h, Pq.laid_len]
  have hno : Mx.is m = false → (Pq.pr m).length = 0 := fun h => by rw [Pq.pr_no h]; rfl
  generalize Pq.pr m = l at *
  have hsz : (⟨l.toArray⟩ : ByteArray).size = l.length := by show l.toArray.size = _; simp
  have i1 : (m.masters.length : Int) ≤ 10 := by omega
  have i2 : (m.messages.length : Int) ≤ 20 := by omega
  have i3 : (m.windows.length : Int) ≤ 25 := by omega
  have i4 : (l.length : Int) ≤ 400 := by omega
  obtain ⟨y0, y1, y2, y3, y4, y5, y6, y7, y8, y9, y10⟩ := HX.out.row.mat
  go_wp2_with fail
  refine (HSz.out _ HX.out.mem HX.out.below HS.out).mono ?_
  rintro e w3 ⟨rfl, hb⟩
  replace HX : Hid (Bx W w3 W.heap.size m a) := HX.out.on hb
  clear y0 y1 y10 y2 y3 y4 y5 y6 y7 y8 y9
  clear hb
  cases hi : Mx.is m
  · have e1 := hno hi
    have e2 : ¬ ((l.length : Int) = 15 + (m.masters.length : Int) + 4 * (m.messages.length : Int) + 8 * (m.windows.length : Int)) := by omega
    have e3 : ((l.length : Int) == 15 + (m.masters.length : Int) + 4 * (m.messages.length : Int) + 8 * (m.windows.length : Int)) = false := beq_eq_false_iff_ne.2 e2
    have e4 : ((l.length : Int) == 0) = true := by rw [e1]; rfl
    rw [hi] at HI
    clear e1 e2 hln hno hle hl1
    obtain ⟨y0, y1, y2, y3, y4, y5, y6, y7, y8, y9, y10⟩ := HX.out.row.mat
    go_wp2_with fail
    refine (HPr.out _ HX.out.mem HX.out.below HS.out).mono ?_
    rintro e w4 ⟨rfl, hb⟩
    replace HX : Hid (Bx W w4 W.heap.size m a) := HX.out.on hb
    clear y0 y1 y10 y2 y3 y4 y5 y6 y7 y8 y9
    clear hb
    obtain ⟨y0, y1, y2, y3, y4, y5, y6, y7, y8, y9, y10⟩ := HX.out.row.mat
    go_wp2_with fail
    refine (HI.out _ HX.out.mem).mono ?_
    rintro e w5 ⟨rfl, hb⟩
    replace HX : Hid (Bx W w5 W.heap.size m a) := HX.out.on hb
    clear y0 y1 y10 y2 y3 y4 y5 y6 y7 y8 y9
    clear hb
    go_wp2
    go_ret
    exact ⟨rfl, HX.out.below⟩
  · have e1 := hln hi
    have e3 : ((l.length : Int) == 15 + (m.masters.length : Int) + 4 * (m.messages.length : Int) + 8 * (m.windows.length : Int)) = true := beq_iff_eq.2 (by omega)
    clear e1 hln hno hle hl1
    obtain ⟨y0, y1, y2, y3, y4, y5, y6, y7, y8, y9, y10⟩ := HX.out.row.mat
    go_wp2_with fail
    refine (HPr.out _ HX.out.mem HX.out.below HS.out).mono ?_
    rintro e w4 ⟨rfl, hb⟩
    replace HX : Hid (Bx W w4 W.heap.size m a) := HX.out.on hb
    clear y0 y1 y10 y2 y3 y4 y5 y6 y7 y8 y9
    clear hb
    go_wp2
    go_ret
    exact ⟨rfl, HX.out.below⟩
end Go.Proofs.YtcdalfhmmipiaaaDoor.configSizes
