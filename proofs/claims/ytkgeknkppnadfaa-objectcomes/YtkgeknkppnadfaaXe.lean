/- Package object, landed: Event, Send. -/
import Derived.Test.YtkgeknkppnadfaaXd
namespace Go.Proofs.Ytkgeknkppnadfaa
open Go.RowKit Go.WideShapes
set_option linter.unusedVariables false
set_option maxRecDepth 100000
section
variable {V w w' : World} {p : Nat} {F : Nat → Prop} {s s' : Q18.St} {a : Option Addr} {c b1 b2 q : Nat} {H H' : Nat → Prop}
theorem Ox.fin (h : Ox V w' p s' a c b1 b2 q H') (hF : ∀ g, F g ↔ g = p ∨ g = b1 ∨ g = b2 ∨ H g) (hs : ∀ g, H' g → H g ∨ w.heap.size ≤ g) (hk : Kept F w w') : Oz V w w' p F s' := by
  refine ⟨_, h.at_, fun g hg => ?_, hk⟩
  rcases hg with hg | hg | hg | hg
  · exact Or.inl ((hF g).2 (by simp [hg]))
  · exact Or.inl ((hF g).2 (by simp [hg]))
  · exact Or.inl ((hF g).2 (by simp [hg]))
  · exact (hs g hg).imp (fun h => (hF g).2 (by simp [h])) id
theorem Ox.zrow {v w1 : World} {g : Nat} (h : Ox V w p s a c b1 b2 q H) (hF : ∀ g, F g ↔ g = p ∨ g = b1 ∨ g = b2 ∨ H g) (hg : w.heap.size = g) (hb : Below w.heap.size w v) (hv : g < v.heap.size) (hq : QueueAt w1 q H' s.q) (hs : ∀ x, H' x → H x ∨ v.heap.size ≤ x) (hk : Kept H v w1) (cs : Array Value) : Oz V w (w1.setRow g cs) p F s := by
  have h1 : Ox V w1 p s a c b1 b2 q H' := (h.on hb).queue hq hs hk
  have h2 : Ox V (w1.setRow g cs) p s a c b1 b2 q H' := h1.same (fun x hx => setRow_other w1 g x cs (fun e => by
    rcases hx with hx | hx | hx | hx
    · have := h.lt x (by simp [hx]); omega
    · have := h.lt x (by simp [hx]); omega
    · have := h.lt x (by simp [hx]); omega
    · rcases hs x hx with hx | hx
      · have := h.lt x (by simp [hx]); omega
      · omega))
  refine h2.fin hF (fun x hx => (hs x hx).imp id (Nat.le_trans hb.size)) (Kept.setRowNew ((Kept.of_below hb).trans hk (fun x hx => Or.inl ((hF x).2 (by simp [hx])))) (Nat.le_of_eq hg) _)
end
set_option maxHeartbeats 4000000 in
theorem oj_event (V w : World) (p : Nat) (F : Nat → Prop) (s : Q18.St) (h : ObjectAt V w p F s) : Ob.Turns Try.prog (ObjectAt V) 17 #[Ob.ptr p] w p F s (.tuple #[dV (Vq.hd s.q), .bool (decide (0 < s.q.l.length))]) := by
  obtain ⟨a, c, b1, b2, q, H, hF, hx⟩ := h
  have hb0 : Below w.heap.size w (w.alloc (.cells #[.int .i64 0, .string ⟨#[]⟩] 43)) := (Below.refl _ _).alloc (Nat.le_refl _) _
  have HX : Hid (Ox V (w.alloc (.cells #[.int .i64 0, .string ⟨#[]⟩] 43)) p s a c b1 b2 q H) := hx.on hb0
  have HR : Hid (RowT 43 (w.alloc (.cells #[.int .i64 0, .string ⟨#[]⟩] 43)) w.heap.size #[.int .i64 0, .string ⟨#[]⟩]) := RowT.new _ _ _
  have HZ : Hid (∀ w1 H' cs, QueueAt w1 q H' s.q → (∀ x, H' x → H x ∨ (w.alloc (.cells #[.int .i64 0, .string ⟨#[]⟩] 43)).heap.size ≤ x) → Kept H (w.alloc (.cells #[.int .i64 0, .string ⟨#[]⟩] 43)) w1 → Oz V w (w1.setRow w.heap.size cs) p F s) := fun w1 H' cs h1 h2 h3 => hx.zrow hF rfl hb0 (by simp) h1 h2 h3 cs
  have HN : Hid (∀ x, H x → x ≠ w.heap.size) := fun x hx' e => by have := hx.lt x (by simp [hx']); omega
  have HA : Hid (Ob.Turns Try.prog QueueAt 34 #[Ob.ptr q] (w.alloc (.cells #[.int .i64 0, .string ⟨#[]⟩] 43)) q H s.q (.tuple #[dV (Vq.hd s.q), .bool (decide (0 < s.q.l.length))])) := qk_head _ q H s.q (hx.on hb0).q
  clear hF hx hb0
  unfold Ob.Turns at HA ⊢
  show Calls _ _ _ _ (fun e w' => e = _ ∧ Oz V w w' p F s)
  generalize Vq.hd s.q = dd at HA ⊢
  generalize decide (0 < s.q.l.length) = bb at HA ⊢
  obtain ⟨dm, dt⟩ := dd
  go_enter Try.func17, Try.ntmps17
  go_upto_region 1 with fail
  generalize w.alloc (.cells #[.int .i64 0, .string ⟨#[]⟩] 43) = v at HX HR HZ HA ⊢
  generalize w.heap.size = g at HR HZ HN ⊢
  obtain ⟨c0, c1, c2, c3, c4⟩ := HX.out.cells
  clear HX c0 c1 c2 c3
  go_wp2_with (first | (go_at_call 34; refine HA.out.mono ?_; rintro e w1 ⟨rfl, H', h1, h2, h3⟩; have HR1 : Hid (RowT 43 w1 g #[.int .i64 0, .string ⟨#[]⟩]) := HR.out.kept h3 (fun e => HN.out _ e rfl)) | (refine wpList_store_row (P := Try.prog) rfl 43 (.tmp 2) (.tmp 9) rfl g #[.int .i64 dm, .string dt] rfl rfl 43 _ HR1.out dinfo rfl (by simp [Value.oneCell']) ?_))
  have HRz : Hid (RowT 43 (w1.setRow g #[.int .i64 dm, .string dt]) g #[.int .i64 dm, .string dt]) := setRow_heap w1 _ _ _ _ _ HR1.out
  have HE := HZ.out w1 H' #[.int .i64 dm, .string dt] h1 h2 h3
  clear HZ HR1 h1 h2 h3
  generalize w1.setRow g #[.int .i64 dm, .string dt] = wz at HRz HE ⊢
  have z0 := HRz.out.c 0 _ rfl
  have z1 := HRz.out.c 1 _ rfl
  exact bodyPost_ret (v := .tuple #[dV ⟨dm, dt⟩, .bool bb]) (by simp [results, Try.results17, go_sem, z0, z1]) rfl ⟨rfl, HE⟩
theorem Q18.own_no {s : Q18.St} {k : Int} (d : ByteArray) (h : Q18.own? s k = false) : Q18.sendE s k d = 145 ∧ Q18.sendS s k d = s := by
  unfold Q18.own? at h
  unfold Q18.sendE Q18.sendS
  cases e : Q18.msgAt s k with
  | none => exact ⟨rfl, rfl⟩
  | some x =>
    rw [e] at h
    dsimp only at h ⊢
    have hn : ¬ x.owner = s.who := fun e => by rw [e] at h; simp at h
    rw [if_neg hn, if_neg hn]
    exact ⟨rfl, rfl⟩
theorem Q18.own_yes {s : Q18.St} {k : Int} (d : ByteArray) (h : Q18.own? s k = true) : ∃ (n : Nat) (x : Mx.Msg), k = (n : Int) ∧ s.l[n]? = some x ∧ Q18.sendE s k d = (if 8 < d.size then 12 else if x.event then Vq.putE s.q else 0) ∧ Q18.sendS s k d = (if 8 < d.size then s else if x.event then { s with q := Vq.putS s.q ⟨k, d⟩ } else { s with own := Q18.put s.own k d }) := by
  unfold Q18.own? at h
  unfold Q18.sendE Q18.sendS
  cases e : Q18.msgAt s k with
  | none => rw [e] at h; cases h
  | some x =>
    rw [e] at h
    dsimp only at h ⊢
    have hn : x.owner = s.who := by simpa using h
    rw [if_pos hn, if_pos hn]
    unfold Q18.msgAt at e
    split at e
    · exact ⟨k.toNat, x, by omega, e, rfl, rfl⟩
    · cases e
set_option maxHeartbeats 4000000 in
theorem oj_send (V w : World) (p : Nat) (F : Nat → Prop) (s : Q18.St) (k : Int) (d : ByteArray) (hV : Below V.heap.size V w) (hk : (Lit.int .i64 k).wf = true) (h : ObjectAt V w p F s) : Ob.Turns Try.prog (ObjectAt V) 11 #[Ob.ptr p, .int .i64 k, .string d] w p F (Q18.sendS s k d) (.int .i64 (Q18.sendE s k d)) := by
  obtain ⟨a, c, b1, b2, q, H, hF, hx⟩ := h
  have HX : Hid (Ox V w p s a c b1 b2 q H) := hx
  have HF : Hid (∀ g, F g ↔ g = p ∨ g = b1 ∨ g = b2 ∨ H g) := hF
  have HL : Hid (LI w a c s.l.length (s.l.flatMap mC2)) := hx.msgs.on hV
  have HO : Hid (Calls Try.prog 29 #[Ob.ptr p, .int .i64 k] w fun e w' => e = .returned (.bool (Q18.own? s k)) ∧ Below w.heap.size w w') := oj_own w p c a _ _ _ s k hx.row (hx.msgs.on hV)
  clear hF hx hV
  unfold Ob.Turns
  show Calls _ _ _ _ (fun e w' => e = _ ∧ Oz V w w' p F (Q18.sendS s k d))
  cases ho : Q18.own? s k with
  | false =>
    obtain ⟨e1, e2⟩ := Q18.own_no d ho
    rw [ho] at HO
    rw [e1, e2]
    clear e1 e2 ho hk
    go_enter Try.func11, Try.ntmps11
    go_wp2_with (go_at_call 29; refine HO.out.mono ?_; rintro e w1 ⟨rfl, hb⟩)
    go_ret
    exact ⟨rfl, HX.out.z HF.out hb⟩
  | true =>
    obtain ⟨n, x, rfl, hx, e1, e2⟩ := Q18.own_yes d ho
    rw [ho] at HO
    rw [e1, e2]
    have HI : Hid (Q18.inn s.own.length (n : Int) = true) := Q18.inn_iff.2 ⟨by omega, by rw [HX.out.ok.own]; have := (List.getElem?_eq_some_iff.1 hx).1; omega⟩
    have hn : n < s.l.length := (List.getElem?_eq_some_iff.1 hx).1
    have HN : Hid (n < s.l.length) := hn
    have HMs : Hid (∃ g o, a = some ⟨g, o, none⟩ ∧ ∀ w', Below w.heap.size w w' → w'.cell? ⟨g, o + n * 3 + 2, none⟩ = some (.bool x.event)) := by
      obtain ⟨g, o, hs, m1, m2⟩ := ms_at HL.out hx
      exact ⟨g, o, hs, fun w' hb => (hb.cell (p := ⟨g, o + n * 3 + 2, none⟩) (block_lt_of_cell m2)).trans m2⟩
    generalize x.event = ev at HMs ⊢
    have HK : Hid ((Lit.int .i64 (n : Int)).wf = true) := hk
    clear e1 e2 ho hk hx HL hn
    by_cases h8 : 8 < d.size
    · have h8i : (8 : Int) < (d.size : Int) := by omega
      rw [if_pos h8, if_pos h8]
      clear h8
      go_enter Try.func11, Try.ntmps11
      go_wp2_with (go_at_call 29; refine HO.out.mono ?_; rintro e w1 ⟨rfl, hb⟩)
      go_ret
      exact ⟨rfl, HX.out.z HF.out hb⟩
    · have h8i : ¬ ((8 : Int) < (d.size : Int)) := by omega
      rw [if_neg h8, if_neg h8]
      clear h8
      cases ev with
      | true =>
        have HA : Hid (∀ w1, QueueAt w1 q H s.q → Ob.Turns Try.prog QueueAt 30 #[Ob.ptr q, .int .i64 (n : Int), .string d] w1 q H (Vq.putS s.q ⟨(n : Int), d⟩) (.int .i64 (Vq.putE s.q))) := fun w1 hq => qk_put w1 q H s.q (n : Int) d hq
        simp only [if_true]
        generalize Vq.putE s.q = pe at HA ⊢
        generalize Vq.putS s.q ⟨(n : Int), d⟩ = ps at HA ⊢
        unfold Ob.Turns at HA
        go_enter Try.func11, Try.ntmps11
        go_wp2_with fail
        refine HO.out.mono ?_
        rintro e w1 ⟨rfl, hb⟩
        have HB : Hid (Below w.heap.size w w1) := hb
        have HX1 : Hid (Ox V w1 p s a c b1 b2 q H) := HX.out.on hb
        obtain ⟨g, o, rfl, hm⟩ := HMs.out
        have m2 := hm w1 hb
        obtain ⟨c0, c1, c2, c3, c4⟩ := HX1.out.cells
        have hni : (n : Int) < (s.l.length : Int) := by have := HN.out; omega
        have hn0 := HN.out
        clear hm hb HO HMs
        have HA1 := HA.out w1 HX1.out.q
        generalize s.l.length = N at c1 hni hn0
        go_wp2_with (go_at_call 30; refine HA1.mono ?_; rintro e w2 ⟨rfl, H', h1, h2, h3⟩)
        go_ret
        exact ⟨rfl, (HX1.out.zq HF.out h1 h2 h3).from HB.out⟩
      | false =>
        simp only [Bool.false_eq_true, if_false]
        go_enter Try.func11, Try.ntmps11
        go_wp2_with fail
        refine HO.out.mono ?_
        rintro e w1 ⟨rfl, hb⟩
        have HB : Hid (Below w.heap.size w w1) := hb
        have HX1 : Hid (Ox V w1 p s a c b1 b2 q H) := HX.out.on hb
        obtain ⟨g, o, rfl, hm⟩ := HMs.out
        have m2 := hm w1 hb
        obtain ⟨c0, c1, c2, c3, c4⟩ := HX1.out.cells
        have hni : (n : Int) < (s.l.length : Int) := by have := HN.out; omega
        have hn0 := HN.out
        clear hm hb HO HMs
        have HA : Hid (Calls Try.prog 31 #[.map (some b1), .int .i64 (n : Int), .string d] w1 fun e w' => e = .returned (.tuple #[]) ∧ Mw.Is w' b1 (Q18.put s.own (n : Int) d) ∧ Kept (fun j => j = b1) w1 w') := oj_lay w1 b1 s.own (n : Int) d HX1.out.m1 HK.out HI.out
        generalize s.l.length = N at c1 hni hn0
        go_wp2_with (go_at_call 31; refine HA.out.mono ?_; rintro e w2 ⟨rfl, h1, h2⟩)
        go_ret
        exact ⟨rfl, (HX1.out.zown HF.out h1 h2).from HB.out⟩
end Go.Proofs.Ytkgeknkppnadfaa
