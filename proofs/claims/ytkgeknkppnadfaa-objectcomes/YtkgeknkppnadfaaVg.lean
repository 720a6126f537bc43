/- Layer 17: the document's queue: Take. -/
import Derived.Test.YtkgeknkppnadfaaVf
import Derived.Test.YtkgeknkppnadfaaSi
namespace Go.Proofs.Ytkgeknkppnadfaa
open Go.RowKit Go.WideShapes
set_option linter.unusedVariables false
theorem dinfo17 : (Try.prog.info? 43).map (·.size) = some 2 := by kernel_rfl
set_option maxRecDepth 100000 in
set_option maxHeartbeats 4000000 in
theorem rq_take (B : Nat) (w : World) (r : Nat) (s : Vq.St) (a : Option Addr) (c : Nat) (hB : B ≤ w.heap.size) (hok : Vq.Ok s) (h : Rq B w r s a c) : Calls Try.prog 36 #[Ob.ptr r] w fun e w' => e = .returned (.tuple #[.agg #[.int .i64 (Vq.hd s).msg, .string (Vq.hd s).data], .int .i64 (Vq.takeE s)]) ∧ (∃ a' c', Rq B w' r (Vq.takeS s) a' c' ∧ Loc a c w.heap.size a' c') ∧ Kept (fun j => j = r) w w' := by
  obtain ⟨room, l⟩ := s
  obtain ⟨k1, k4, kl⟩ := hok
  have hb0 : Below w.heap.size w (w.alloc (.cells #[.int .i64 0, .string ⟨#[]⟩] 43)) := (Below.refl _ _).alloc (Nat.le_refl _) _
  have HH : Hid (Rq B (w.alloc (.cells #[.int .i64 0, .string ⟨#[]⟩] 43)) r ⟨room, l⟩ a c) := h.on hb0
  have HB0 : Hid (Below w.heap.size w (w.alloc (.cells #[.int .i64 0, .string ⟨#[]⟩] 43))) := hb0
  have HZ : Hid (RowT 43 (w.alloc (.cells #[.int .i64 0, .string ⟨#[]⟩] 43)) w.heap.size #[.int .i64 0, .string ⟨#[]⟩]) := RowT.new _ _ _
  clear h hb0
  cases l with
  | nil =>
    have c1 := HH.out.row.c 1 _ rfl
    have z0 := HZ.out.c 0 _ rfl
    have z1 := HZ.out.c 1 _ rfl
    go_enter Try.func36, Try.ntmps36
    go_wp2_with (refine wpList_store_row (P := Try.prog) rfl 43 (.tmp 2) (.tmp 11) rfl w.heap.size #[.int .i64 0, .string ⟨#[]⟩] rfl rfl 43 _ HZ.out dinfo17 rfl rfl ?_)
    refine bodyPost_ret (v := .tuple #[.agg #[.int .i64 0, .string ⟨#[]⟩], .int .i64 171]) (by simp [results, Try.results36, go_sem, z0, z1]) rfl ⟨rfl, ⟨a, c, HH.out, fun g hg => Or.inl hg⟩, Kept.of_below HB0.out⟩
  | cons d l =>
    have hl4 : l.length + 1 ≤ 4 := by have : (d :: l).length ≤ room := kl; have : l.length + 1 ≤ room := this; have : room ≤ 4 := k4; omega
    obtain ⟨n, hn⟩ : ∃ n, l.length = n := ⟨_, rfl⟩
    have HN : Hid (l.length = n) := hn
    have c1 : (w.alloc (.cells #[.int .i64 0, .string ⟨#[]⟩] 43)).cell? ⟨r, 1, none⟩ = some (.slice a (n + 1) c) := by have h := HH.out.row.c 1 (.slice a (l.length + 1) c) rfl; rwa [hn] at h
    obtain ⟨g, o, hs, hq⟩ := LI.del (l := d :: l) HH.out.ol.sl.li (i := 0) rfl
    obtain ⟨d0, d1⟩ := hq _ (Below.refl _ _)
    rw [Nat.zero_mul, Nat.add_zero] at d0 d1
    have hcap : n + 1 ≤ c := by have h := HH.out.ol.sl.1; rw [← hn]; exact h
    have nb : (n : Int) + 1 ≤ 4 := by omega
    rw [hs] at c1
    have HA : Hid (a = some ⟨g, o, none⟩) := hs
    have hb1 : Below (w.alloc (.cells #[.int .i64 0, .string ⟨#[]⟩] 43)).heap.size (w.alloc (.cells #[.int .i64 0, .string ⟨#[]⟩] 43)) ((w.alloc (.cells #[.int .i64 0, .string ⟨#[]⟩] 43)).alloc (.cells #[.int .i64 d.msg, .string d.data] 43)) := (Below.refl _ _).alloc (Nat.le_refl _) _
    have hsz : (w.alloc (.cells #[.int .i64 0, .string ⟨#[]⟩] 43)).heap.size = w.heap.size + 1 := by simp
    replace HZ : Hid (RowT 43 ((w.alloc (.cells #[.int .i64 0, .string ⟨#[]⟩] 43)).alloc (.cells #[.int .i64 d.msg, .string d.data] 43)) w.heap.size #[.int .i64 0, .string ⟨#[]⟩]) := HZ.out.on hb1
    replace HH : Hid (Rq B ((w.alloc (.cells #[.int .i64 0, .string ⟨#[]⟩] 43)).alloc (.cells #[.int .i64 d.msg, .string d.data] 43)) r ⟨room, d :: l⟩ a c) := HH.out.on hb1
    replace HB0 : Hid (Below w.heap.size w ((w.alloc (.cells #[.int .i64 0, .string ⟨#[]⟩] 43)).alloc (.cells #[.int .i64 d.msg, .string d.data] 43))) := HB0.out.trans (hb1.mono HB0.out.size)
    have HD : Hid (RowT 43 ((w.alloc (.cells #[.int .i64 0, .string ⟨#[]⟩] 43)).alloc (.cells #[.int .i64 d.msg, .string d.data] 43)) (w.heap.size + 1) #[.int .i64 d.msg, .string d.data]) := by
      have h := RowT.new 43 (w.alloc (.cells #[.int .i64 0, .string ⟨#[]⟩] 43)) #[.int .i64 d.msg, .string d.data]
      rwa [hsz] at h
    clear hb1 hsz hq hs hn
    go_enter Try.func36, Try.ntmps36
    go_upto_region 4 with fail
    clear c1 d0 d1
    generalize (w.alloc (.cells #[.int .i64 0, .string ⟨#[]⟩] 43)).alloc (.cells #[.int .i64 d.msg, .string d.data] 43) = v at HZ HH HB0 HD ⊢
    have HRw : Hid (RowT 49 v r #[.int .i64 (room : Int), .slice (some ⟨g, o, none⟩) (n + 1) c]) := by
      have h : RowT 49 v r #[.int .i64 (room : Int), .slice a (l.length + 1) c] := HH.out.row
      rw [HN.out, HA.out] at h
      exact h
    have HSr : Hid (Src Try.prog 2 47 (.slice (Sg.backAt (some ⟨g, o, none⟩) c 1 2) n (c - 1)) n (l.flatMap dC) v) := by
      have h := Sg.src_back (P := Try.prog) (t := 47) (f := dC) (sz := 2) (fun _ => rfl) Try.underlying47 (l := d :: l) HH.out.ol.sl.li (dC_flat _) (k := 1) (by show 1 ≤ l.length + 1; omega)
      have e : (d :: l).length - 1 = n := by show l.length + 1 - 1 = n; rw [HN.out]; rfl
      rw [e, HA.out] at h
      exact h
    have hbk : ∀ W, (Instr.sliceAt 47 (.slice (some ⟨g, o, none⟩) (n + 1) c) (some (.int .i64 1)) none none).run Try.prog W = .ok (.slice (Sg.backAt (some ⟨g, o, none⟩) c 1 2) n (c - 1)) W := fun W => Sg.run_back Try.underlying47 dinfo17 (some ⟨g, o, none⟩) (n + 1) c 1 (by omega) W
    have c1 := HRw.out.c 1 _ rfl
    have HBv : Hid (w.heap.size < v.heap.size) := HZ.out.lt
    generalize Sg.backAt (some ⟨g, o, none⟩) c 1 2 = ab at HSr hbk
    go_upto_region 5 with (refine Sg.wpList_appendO elDel rfl (.const (.slice none 0 0)) (.tmp 23) 47 rfl rfl rfl (Sg.OL.nil 43 2 v.heap.size _) (Nat.le_refl _) HSr.out (show 0 + n ≤ 1000000 by omega) ?_; intro s1 k1' n1 u1 hn1 h1 hk1; rw [Nat.zero_add] at hn1; obtain rfl : n = n1 := hn1.symm; rw [List.nil_append] at h1; have HK1 : Hid (Kept (fun _ => False) v u1) := hk1.mono (fun g hg => absurd hg.1 (Nat.lt_irrefl 0)); have HO1 : Hid (Sg.OL 43 2 v.heap.size u1 s1 k1' n (l.flatMap dC)) := h1; have HR1 : Hid (RowT 49 u1 r #[.int .i64 (room : Int), .slice (some ⟨g, o, none⟩) (n + 1) c]) := HRw.out.kept HK1.out (fun f => f); have e1 := HR1.out.c 1 _ rfl; have f1 := HR1.out.f 1; clear h1 hk1)
    have hks : Kept (fun j => j = r) u1 (u1.setCell ⟨r, 1, none⟩ (.slice s1 n k1')) := Kept.set _ _ _ rfl
    have hz1 : RowT 43 u1 w.heap.size #[.int .i64 0, .string ⟨#[]⟩] := HZ.out.kept HK1.out (fun f => f)
    have hd1 : RowT 43 u1 (w.heap.size + 1) #[.int .i64 d.msg, .string d.data] := HD.out.kept HK1.out (fun f => f)
    have HZ2 : Hid (RowT 43 (u1.setCell ⟨r, 1, none⟩ (.slice s1 n k1')) w.heap.size #[.int .i64 0, .string ⟨#[]⟩]) := hz1.kept hks (row_ne17 hz1 HR1.out (by decide))
    have HD2 : Hid (RowT 43 (u1.setCell ⟨r, 1, none⟩ (.slice s1 n k1')) (w.heap.size + 1) #[.int .i64 d.msg, .string d.data]) := hd1.kept hks (row_ne17 hd1 HR1.out (by decide))
    have HQ2 : Hid (RowT 49 (u1.setCell ⟨r, 1, none⟩ (.slice s1 n k1')) r #[.int .i64 (room : Int), .slice s1 n k1']) := HR1.out.set 1 _
    have HO2 : Hid (Sg.OL 43 2 v.heap.size (u1.setCell ⟨r, 1, none⟩ (.slice s1 n k1')) s1 k1' n (l.flatMap dC)) := HO1.out.kept hks (fun g hg e => by subst e; exact ol_ne17 HO1.out HR1.out (by decide) hg)
    have HK2 : Hid (Kept (fun j => j = r) w (u1.setCell ⟨r, 1, none⟩ (.slice s1 n k1'))) := ((Kept.of_below (F := fun j => j = r) HB0.out).trans HK1.out (fun g hg => hg.elim)).trans hks (fun g hg => Or.inl hg)
    clear hks hz1 hd1 HK1 HO1 HR1 e1 f1 HSr hbk c1 HRw HZ HD HB0 HH
    generalize u1.setCell ⟨r, 1, none⟩ (.slice s1 n k1') = u2 at HZ2 HD2 HQ2 HO2 HK2 ⊢
    have x0 := HD2.out.c 0 _ rfl
    have x1 := HD2.out.c 1 _ rfl
    have hone : (#[.int .i64 d.msg, .string d.data] : Array Value).all (·.oneCell') = true := by simp [Value.oneCell']
    go_wp2_with (refine wpList_store_row (P := Try.prog) rfl 43 (.tmp 2) (.tmp 27) rfl w.heap.size #[.int .i64 d.msg, .string d.data] rfl rfl 43 _ HZ2.out dinfo17 rfl hone ?_)
    have hk3 : Kept (fun j => j = w.heap.size) u2 (u2.setRow w.heap.size #[.int .i64 d.msg, .string d.data]) := ⟨rfl, rfl, rfl, by simp [World.setRow], fun k _ hk => setRow_other u2 w.heap.size k _ (fun e => hk (by omega))⟩
    have z0 : RowT 43 (u2.setRow w.heap.size #[.int .i64 d.msg, .string d.data]) w.heap.size #[.int .i64 d.msg, .string d.data] := setRow_heap _ _ _ _ _ _ HZ2.out
    have HF1 : Hid (Rq B (u2.setRow w.heap.size #[.int .i64 d.msg, .string d.data]) r ⟨room, l⟩ s1 k1') := by
      have hq2 := HQ2.out.kept hk3 (row_ne17 HQ2.out HZ2.out (by decide))
      refine ⟨?_, ?_⟩
      · show RowT _ _ _ #[.int .i64 (room : Int), .slice s1 l.length k1']
        rw [HN.out]
        exact hq2
      · show Sg.OL _ _ _ _ _ _ l.length (l.flatMap dC)
        rw [HN.out]
        refine (HO2.out.kept hk3 (fun j hj e => ?_)).mono (Nat.le_trans hB (Nat.le_of_lt HBv.out))
        obtain ⟨g1, o1, cur, e2, hBg, _⟩ := HO2.out.ty hj.1
        have e3 := hj.2
        rw [e2] at e3
        injection e3 with e3
        dsimp only at e3
        have := HBv.out
        omega
    have HF2 : Hid (Kept (fun j => j = r) w (u2.setRow w.heap.size #[.int .i64 d.msg, .string d.data])) := HK2.out.trans hk3 (fun g hg => Or.inr (by rw [hg]; exact Nat.le_refl _))
    have HF3 : Loc a c w.heap.size s1 k1' := fun g hg => Or.inr (by
      obtain ⟨g1, o1, cur, e2, hBg, _⟩ := HO2.out.ty hg.1
      have e3 := hg.2
      rw [e2] at e3
      injection e3 with e3
      dsimp only at e3
      have := HBv.out
      omega)
    have y0 := z0.c 0 _ rfl
    have y1 := z0.c 1 _ rfl
    refine bodyPost_ret (v := .tuple #[.agg #[.int .i64 d.msg, .string d.data], .int .i64 0]) (by simp [results, Try.results36, go_sem, y0, y1]) rfl ⟨rfl, ⟨s1, k1', HF1.out, HF3⟩, HF2.out⟩
end Go.Proofs.Ytkgeknkppnadfaa
