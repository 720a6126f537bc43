/- Package plan, over the landed code: Plan; it does what a plan is said to do. -/
import Derived.Test.YtnbfnipdiffphaaDoorUn
import Derived.Test.YtnbfnipdiffphaaDoorUq
namespace Go.Proofs.YtnbfnipdiffphaaDoor
open Go.RowKit Go.WideShapes
set_option linter.unusedVariables false
set_option maxRecDepth 100000 in
set_option maxHeartbeats 4000000 in
theorem pk_planN (W : World) (hT : Tab W) (m : Mx.M) (a : Ma) (who : Int) (hm : MIn W m a) (hS : Mx.Small m) (hwf : Mx.Wf m) (hwho : (Lit.int .i64 who).wf = true) : TellsN Tryd.prog 21 #[mV m a, .int .i64 who] W (Yq.plan m who) := by
  have HX : Hid (Bx W (W.alloc (.cells (mCs m a) 27)) W.heap.size m a) := Bx.mk' hm
  have HTb : Hid (∀ w', Below W.heap.size W w' → Tab w') := fun w' hb => hT.below hb
  have HCk : Hid (∀ w, Bx W w W.heap.size m a → Calls Tryd.prog 32 #[mV m a] w fun e w' => e = .returned (.tuple #[.int .i64 (Lq.check m).1, .int .i64 (Lq.check m).2]) ∧ Below w.heap.size w w') := fun w h => ck_check w (HTb.out _ h.below) m a h.mem hS hwf
  have HNd : Hid (∀ w, Bx W w W.heap.size m a → Lq.Passes m → Tells Tryd.prog 34 #[mV m a, .int .i64 who] w (Yq.node m who)) := fun w h hP => pk_node w (HTb.out _ h.below) m a who h.mem hP hwho
  have HSo : Hid (∀ (w : World) (l : List Yq.Tr) (s : Option Addr) (c n : Nat), n = l.length → LI w s c n (l.flatMap tC) → l.length ≤ 1000 → TellsN Tryd.prog 33 #[.slice s n c] w (l.foldl Yq.lay [])) := fun w l s c n hn h hl => by subst hn; exact pk_sortedN w l s c h hl
  obtain ⟨y0, y1, y2, y3, y4, y5, y6, y7, y8, y9, y10⟩ := HX.out.row.mat
  obtain ⟨V, hV⟩ : ∃ V, Yq.plan m who = V := ⟨_, rfl⟩
  have HV : Hid (Yq.plan m who = V) := hV
  rw [hV]
  unfold TellsN
  clear hV hm hS hwf hT
  go_enter Tryd.func21, Tryd.ntmps21
  go_wp2_with fail
  refine (HCk.out _ HX.out).mono ?_
  rintro e w1 ⟨rfl, hb⟩
  replace HX : Hid (Bx W w1 W.heap.size m a) := HX.out.on hb
  clear hb HCk y0 y1 y2 y3 y4 y5 y6 y7 y8 y9 y10
  by_cases hc : (Lq.check m).2 = 0
  rotate_left
  · obtain rfl : V = [] := by rw [← HV.out]; unfold Yq.plan; rw [if_neg hc]
    generalize (Lq.check m).2 = ck at hc ⊢
    clear HNd HSo HV
    go_wp2
    go_ret
    exact ⟨none, 0, 0, rfl, rfl, Sg.OL.nil _ _ _ _, HX.out.below⟩
  have HPs : Hid (Lq.Passes m) := Lq.passes_of hc
  have HVe : Hid (V = (Yq.node m who).foldl Yq.lay []) := by show _ = _; rw [← HV.out]; exact Yq.plan_node hc who
  have hnl : (Yq.node m who).length ≤ 19 := Yq.node_len (Yq.wins16' HPs.out.is) who
  rw [hc]
  clear hc HV
  generalize (Lq.check m).1 = ck1
  obtain ⟨y0, y1, y2, y3, y4, y5, y6, y7, y8, y9, y10⟩ := HX.out.row.mat
  go_wp2_with fail
  refine (HNd.out _ HX.out HPs.out).mono ?_
  rintro e w2 ⟨s, c, n, hn, rfl, hli, hb⟩
  have HB : Hid (Below W.heap.size W w2) := HX.out.below.trans (hb.mono HX.out.below.size)
  have HLi : Hid (LI w2 s c n ((Yq.node m who).flatMap tC)) := hli
  have HNn : Hid (n = (Yq.node m who).length) := hn
  clear hn hli hb HX HNd y0 y1 y2 y3 y4 y5 y6 y7 y8 y9 y10
  go_wp2_with fail
  refine (HSo.out _ _ s c n HNn.out HLi.out (by omega)).mono ?_
  rintro e w3 ⟨s3, c3, n3, hn3, rfl, hli3, hb⟩
  have HB3 : Hid (Below W.heap.size W w3) := HB.out.trans (hb.mono HB.out.size)
  have HR : Hid (n3 = V.length ∧ Sg.OL 36 6 W.heap.size w3 s3 c3 n3 (V.flatMap tC)) := by show _ ∧ _; rw [HVe.out]; exact ⟨hn3, hli3.mono HB.out.size⟩
  clear hn3 hli3 hb HB HLi HNn HSo HVe
  go_wp2
  go_ret
  exact ⟨s3, c3, n3, HR.out.1, rfl, HR.out.2, HB3.out⟩
theorem pk_plan (W : World) (hT : Tab W) (m : Mx.M) (a : Ma) (who : Int) (hm : MIn W m a) (hS : Mx.Small m) (hwf : Mx.Wf m) (hwho : (Lit.int .i64 who).wf = true) : Tells Tryd.prog 21 #[mV m a, .int .i64 who] W (Yq.plan m who) := (pk_planN W hT m a who hm hS hwf hwho).tells
theorem planSpec : PlanSpec Tab where
  plan := fun w m a who hT hm hS hwf hw => pk_plan w hT m a who hm hS hwf hw
  due := fun w l s c cy lo hi hT h hl hwf h1 h2 h3 => pk_due w l s c cy lo hi h hl hwf h1
  beat := fun w m a r hT hm hS hwf hr => pk_beat w hT m a r hm hS hwf hr
  watch := fun w m a hT hm hS hwf => pk_watch w hT m a hm hS hwf
end Go.Proofs.YtnbfnipdiffphaaDoor
