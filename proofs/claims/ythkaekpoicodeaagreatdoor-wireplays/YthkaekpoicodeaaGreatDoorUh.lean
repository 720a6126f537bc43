/- Package wire, over the landed code: Step. -/
import Derived.Test.YthkaekpoicodeaaGreatDoorUg
import Derived.Deep.Cut
import Derived.Deep.RegionWith
namespace Go.Proofs.YthkaekpoicodeaaGreatDoor
open Go.RowKit
set_option linter.unusedVariables false
theorem WI.drew {w : World} {p gn qb : Nat} {N : List Nd} {bs : List Bool} {fl : Bool} (h : WI w p gn qb N bs fl) : WI w.drew p gn qb N bs fl := h.on (fun _ _ => rfl)
theorem Tab.drew {w : World} (h : Tab w) : Tab w.drew := h.below ((Below.refl _ _).drew)
set_option maxRecDepth 100000 in
set_option maxHeartbeats 4000000 in
theorem wstep_any (w : World) (p gn qb : Nat) (N : List Nd) (bs : List Bool) (fl : Bool) (h : WI w p gn qb N bs false) (hT : Tab w) (hl : bs.length ≤ 100000) (b : Bool) (hb : b = (((N.map (·.m)).all Mm.drive) != fl)) :
    Calls Tryz.prog 11 #[bptr p, .bool fl] w fun e w' => ∃ s cap N', e = .returned (.slice s (Mm.wevs (N.map (·.m)) b).length cap) ∧ Mid w w' p gn qb N (bs ++ [b]) b N.length s cap N' := by
  have HW : Hid (WI w p gn qb N bs false) := h
  have HT : Hid (Tab w) := hT
  have c0 := h.c0
  have c1 := h.c1
  obtain ⟨hlo, hhi⟩ : 1 ≤ N.length ∧ N.length ≤ 8 := ⟨h.lo, h.hi⟩
  have HFl : Hid (∀ w1, WI w1 p gn qb N bs false → Calls Tryz.prog 26 #[bptr qb] w1 fun e w' => e = .returned (.tuple #[]) ∧ WI w' p gn qb N bs true ∧ Kept (fun g => g = qb) w1 w') := fun w1 h1 =>
    (busSpec.flip w1 qb _ bs false h1.bus).mono fun e w' ⟨he, F', hA, _, hk⟩ => ⟨he, h1.setB hk (by have := hA.1; subst this; exact hA), hk⟩
  have HSt : Hid (∀ w1, WI w1 p gn qb N bs fl → Calls Tryz.prog 27 #[bptr qb, .string ⟨(dl N).toArray⟩] w1 fun e w' => e = .returned (.int .u8 ((bsg b).toNat : Int)) ∧ WI w' p gn qb N (bs ++ [b]) false ∧ Kept (fun g => g = qb) w1 w') := fun w1 h1 => by
    have hd : (ByteArray.mk (dl N).toArray).data.toList = dl N := rfl
    have := busSpec.step w1 qb _ bs fl ⟨(dl N).toArray⟩ h1.bus (by omega) (by show (dl N).toArray.size ≤ _; rw [List.size_toArray, dl_len]; omega)
    rw [hd, dl_wire, ← hb, ← bsg_int] at this
    exact this.mono fun e w' ⟨he, F', hA, _, hk⟩ => ⟨he, h1.setB hk (by have := hA.1; subst this; exact hA), hk⟩
  have HLv : Hid (∀ w1, WI w1 p gn qb N bs fl → Tab w1 → Calls Tryz.prog 28 #[bptr p] w1 fun e w' => e = .returned (.string ⟨(dl N).toArray⟩) ∧ Below w1.heap.size w1 w') := fun w1 h1 h2 => levels_any w1 p gn qb N bs fl h1 h2
  have HTB : Hid (∀ w1 w2, WI w1 p gn qb N bs false → Tab w1 → Kept (fun g => g = qb) w1 w2 → Tab w2) := fun w1 w2 h1 h2 hk => h2.kept (fun e => tab_bus h2 h1.bus e) hk
  have HTC : Hid (∀ w1 w2, WI w1 p gn qb N bs fl → Tab w1 → Kept (fun g => g = qb) w1 w2 → Tab w2) := fun w1 w2 h1 h2 hk => h2.kept (fun e => tab_bus h2 h1.bus e) hk
  have HEv : Hid (evk N b N.length = Mm.wevs (N.map (·.m)) b) := evk_all N b
  have HEl : Hid (∀ k, (evk N b k).length ≤ 24) := fun k => evk_len N b k hhi
  rw [← HEv.out]
  clear h hT hb HEv
  generalize dl N = D at *
  obtain ⟨n, hn⟩ : ∃ n, N.length = n := ⟨_, rfl⟩
  have HNn : Hid (N.length = n) := hn
  rw [hn] at c0 hlo hhi ⊢
  clear hn
  have HB : Hid (∀ w1, WI w1 p gn qb N bs fl → Tab w1 → Kept (fpw p gn qb N) w w1 → ∀ w2, Below w1.heap.size w1 w2 → ∀ w3, WI w3 p gn qb N (bs ++ [b]) false → Kept (fun g => g = qb) w2 w3 → Mid w w3 p gn qb N (bs ++ [b]) b 0 none 0 N) := fun w1 h1 t1 k1 w2 hb2 w3 h3 k3 => by
    have hk2 : Kept (fpw p gn qb N) w w2 := k1.trans (G := fun _ => False) (Kept.of_below hb2) (fun g hg => hg.elim)
    exact mid_start h3 (hk2.trans k3 (fun g hg => Or.inl (Or.inr (Or.inr (Or.inl hg))))) (HTC.out w2 w3 (h1.below hb2) (t1.below hb2) k3) HT.out.1
  cases fl
  · have HWd : Hid (WI w.drew p gn qb N bs false) := HW.out.drew
    have HTd : Hid (Tab w.drew) := HT.out.drew
    have HKd : Hid (Kept (fpw p gn qb N) w w.drew) := Kept.drew _ _
    go_enter Tryz.func11, Tryz.ntmps11
    go_wp2_with fail
    go_cut [5] from 14 (fun v wx => v = .int .u8 ((bsg b).toNat : Int) ∧ Hid (Mid w wx p gn qb N (bs ++ [b]) b 0 none 0 N))
    case first =>
      go_region_with (first | (go_at_call 28; refine (HLv.out _ HWd.out HTd.out).mono ?_; rintro e w2 ⟨rfl, hb2⟩; have HW2 : Hid (WI w2 p gn qb N bs false) := HWd.out.below hb2; have c12 := HW2.out.c1; have HB2 : Hid (Below w.drew.heap.size w.drew w2) := hb2; clear hb2) | (go_at_call 27; refine (HSt.out _ HW2.out).mono ?_; rintro e w3 ⟨rfl, h3, k3⟩; have HM3 : Hid (Mid w w3 p gn qb N (bs ++ [b]) b 0 none 0 N) := HB.out _ HWd.out HTd.out HKd.out _ HB2.out _ h3 k3; clear h3 k3))
      all_goals
        go_wp2_with fail
        go_meet
        case rel => exact ⟨rfl, HM3⟩
    case rest =>
      obtain ⟨rfl, HMc⟩ := hcut
      clear c0 c1 HW HFl HSt HLv HTB HTC HB HWd HTd HKd
      have c0 : wc.cell? ⟨p, 0, none⟩ = some (.slice (some ⟨gn, 0, none⟩) n n) := by have := HMc.out.wi.c0; rw [HNn.out] at this; exact this
      go_wp2_with fail
      go_loopw [26, 6] (fun i a wr => ∃ (k : Nat) (sA : Option Addr) (cA m : Nat) (N' : List Nd), k ≤ n ∧ i = .int .i64 k ∧ a = .slice sA m cA ∧ Hid (m = (evk N b k).length) ∧ Hid (Mid w wr p gn qb N (bs ++ [b]) b k sA cA N')) (fun i _ _ => n - (intOf i).toNat)
      case atStart => exact ⟨0, none, 0, 0, N, Nat.zero_le _, rfl, rfl, rfl, HMc⟩
      case round =>
        clear c0 HMc
        obtain ⟨k, sA, cA, m, N', hk, rfl, rfl, Hm, HMr⟩ := hrel
        by_cases hlt : k < n
        · obtain ⟨x, hx⟩ : ∃ x, N[k]? = some x := ⟨_, List.getElem?_eq_getElem (by rw [HNn.out]; exact hlt)⟩
          obtain ⟨s0, h0⟩ := sofar_at HMr.out.so hx
          have hN' : N'.length = n := HMr.out.so.1.trans HNn.out
          have c0 : wr.cell? ⟨p, 0, none⟩ = some (.slice (some ⟨gn, 0, none⟩) n n) := by have := HMr.out.wi.c0; rw [hN'] at this; exact this
          have HC : Hid (Calls Tryz.prog 29 #[.pointer (some ⟨gn, k * 2, none⟩), .int .u8 ((bsg b).toNat : Int)] wr fun e w' => ∃ s cap s', e = .returned (.slice s (Mm.sample x.m b).2.length cap) ∧ EvAt wr.heap.size w' s cap (Mm.sample x.m b).2 ∧ WI w' p gn qb (N'.set k ⟨x.q, s', (Mm.sample x.m b).1, Mm.lst (x.h ++ (Mm.sample x.m b).2)⟩) (bs ++ [b]) false ∧ Kept (fun g => g = x.q ∨ g = gn) wr w' ∧ (s' = s0 ∨ ∃ g, s' = some ⟨g, 0, none⟩ ∧ wr.heap.size ≤ g)) :=
            node_any wr p gn qb N' (bs ++ [b]) false k ⟨x.q, s0, x.m, x.h⟩ (bsg b) HMr.out.wi h0 HMr.out.tab _ _ (by rw [bsg_ne])
          have HX : Hid (N[k]? = some x) := hx
          have H0 : Hid (N'[k]? = some ⟨x.q, s0, x.m, x.h⟩) := h0
          have h3 : (Mm.sample x.m b).2.length ≤ 3 := Mm.sample_len _ _
          have h24 := HEl.out k
          have HL3 : Hid ((evk N b k).length + (Mm.sample x.m b).2.length ≤ 1000) := by show _ ≤ _; omega
          clear hx h0 h3 h24 hN'
          go_wp2_with fail
          refine HC.out.mono ?_
          rintro e w1 ⟨s, cap, s', rfl, hE1, hW1, hK1, hs1⟩
          have HE1 : Hid (EvAt wr.heap.size w1 s cap (Mm.sample x.m b).2) := hE1
          have HEA : Hid (EvAt w.heap.size w1 sA cA (evk N b k)) := HMr.out.ev.on (fun g o e => hK1.block g (HMr.out.ev.zero g o e).2.2 (fun hq => HMr.out.sep g o e (hq.elim (fun h => h ▸ Or.inr (Or.inr (Or.inr ⟨_, List.mem_of_getElem? H0.out, Or.inl rfl⟩)) ) (fun h => Or.inr (Or.inl h)))))
          have HW1 : Hid (WI w1 p gn qb (N'.set k ⟨x.q, s', (Mm.sample x.m b).1, Mm.lst (x.h ++ (Mm.sample x.m b).2)⟩) (bs ++ [b]) false) := hW1
          have HK1 : Hid (Kept (fun g => g = x.q ∨ g = gn) wr w1) := hK1
          have HS1 : Hid (s' = s0 ∨ ∃ g, s' = some ⟨g, 0, none⟩ ∧ wr.heap.size ≤ g) := hs1
          have HZ1 : Hid (w.heap.size ≤ w1.heap.size) := Nat.le_trans HMr.out.kept.size hK1.size
          obtain ⟨l2, hl2⟩ : ∃ l2, (Mm.sample x.m b).2.length = l2 := ⟨_, rfl⟩
          have Hl2 : Hid (l2 = (Mm.sample x.m b).2.length) := hl2.symm
          rw [hl2]
          clear hE1 hW1 hK1 hs1 HC c0 hl2
          go_wp2_with (refine wpList_append_ev rfl (.tmp 29) (.tmp 37) rfl (B := w.heap.size) (B2 := wr.heap.size) (s := sA) (s2 := s) (n := m) (n2 := l2) (cap := cA) (cap2 := cap) (l := evk N b k) (l2 := (Mm.sample x.m b).2) rfl rfl Hm.out Hl2.out HEA.out HE1.out HZ1.out HL3.out ?_; intro s2 c2 w2 hE2 hg2 hp2)
          have HM2 : Hid (Mid w w2 p gn qb N (bs ++ [b]) b (k + 1) s2 c2 (N'.set k ⟨x.q, s', (Mm.sample x.m b).1, Mm.lst (x.h ++ (Mm.sample x.m b).2)⟩)) := mid_next HMr.out HX.out HW1.out HK1.out H0.out HS1.out hE2 hg2 hp2
          have Hm2 : Hid (m + l2 = (evk N b (k + 1)).length) := by show _ = _; rw [evk_next N b k x HX.out, List.length_append, ← Hm.out, ← Hl2.out]
          clear hE2 hg2 hp2
          go_wp2
          go_roundw
          case rel => exact ⟨k + 1, s2, c2, m + l2, _, by omega, rfl, rfl, Hm2, HM2⟩
          case measure => simp only [intOf]; omega
        · obtain rfl : k = n := by omega
          go_wp2
          go_ret
          exact ⟨sA, cA, N', by rw [← Hm.out]; rfl, HMr.out⟩
  · go_enter Tryz.func11, Tryz.ntmps11
    go_wp2_with fail
    refine (HFl.out _ HW.out).mono ?_
    rintro e w0 ⟨rfl, h0, k0⟩
    have HWd : Hid (WI w0.drew p gn qb N bs true) := h0.drew
    have HTd : Hid (Tab w0.drew) := (HTB.out w w0 HW.out HT.out k0).drew
    have HKd : Hid (Kept (fpw p gn qb N) w w0.drew) := (k0.mono (fun g hg => Or.inr (Or.inr (Or.inl hg)))).trans (G := fun _ => False) (Kept.drew _ _) (fun g hg => hg.elim)
    have c1' := h0.c1
    clear h0 k0 HW
    go_wp2_with fail
    go_cut [5] from 14 (fun v wx => v = .int .u8 ((bsg b).toNat : Int) ∧ Hid (Mid w wx p gn qb N (bs ++ [b]) b 0 none 0 N))
    case first =>
      go_region_with (first | (go_at_call 28; refine (HLv.out _ HWd.out HTd.out).mono ?_; rintro e w2 ⟨rfl, hb2⟩; have HW2 : Hid (WI w2 p gn qb N bs true) := HWd.out.below hb2; have c12 := HW2.out.c1; have HB2 : Hid (Below w0.drew.heap.size w0.drew w2) := hb2; clear hb2) | (go_at_call 27; refine (HSt.out _ HW2.out).mono ?_; rintro e w3 ⟨rfl, h3, k3⟩; have HM3 : Hid (Mid w w3 p gn qb N (bs ++ [b]) b 0 none 0 N) := HB.out _ HWd.out HTd.out HKd.out _ HB2.out _ h3 k3; clear h3 k3))
      all_goals
        go_wp2_with fail
        go_meet
        case rel => exact ⟨rfl, HM3⟩
    case rest =>
      obtain ⟨rfl, HMc⟩ := hcut
      clear c0 c1 HFl HSt HLv HTB HTC HB HWd HTd HKd
      have c0 : wc.cell? ⟨p, 0, none⟩ = some (.slice (some ⟨gn, 0, none⟩) n n) := by have := HMc.out.wi.c0; rw [HNn.out] at this; exact this
      go_wp2_with fail
      go_loopw [26, 6] (fun i a wr => ∃ (k : Nat) (sA : Option Addr) (cA m : Nat) (N' : List Nd), k ≤ n ∧ i = .int .i64 k ∧ a = .slice sA m cA ∧ Hid (m = (evk N b k).length) ∧ Hid (Mid w wr p gn qb N (bs ++ [b]) b k sA cA N')) (fun i _ _ => n - (intOf i).toNat)
      case atStart => exact ⟨0, none, 0, 0, N, Nat.zero_le _, rfl, rfl, rfl, HMc⟩
      case round =>
        clear c0 HMc
        obtain ⟨k, sA, cA, m, N', hk, rfl, rfl, Hm, HMr⟩ := hrel
        by_cases hlt : k < n
        · obtain ⟨x, hx⟩ : ∃ x, N[k]? = some x := ⟨_, List.getElem?_eq_getElem (by rw [HNn.out]; exact hlt)⟩
          obtain ⟨s0, h0⟩ := sofar_at HMr.out.so hx
          have hN' : N'.length = n := HMr.out.so.1.trans HNn.out
          have c0 : wr.cell? ⟨p, 0, none⟩ = some (.slice (some ⟨gn, 0, none⟩) n n) := by have := HMr.out.wi.c0; rw [hN'] at this; exact this
          have HC : Hid (Calls Tryz.prog 29 #[.pointer (some ⟨gn, k * 2, none⟩), .int .u8 ((bsg b).toNat : Int)] wr fun e w' => ∃ s cap s', e = .returned (.slice s (Mm.sample x.m b).2.length cap) ∧ EvAt wr.heap.size w' s cap (Mm.sample x.m b).2 ∧ WI w' p gn qb (N'.set k ⟨x.q, s', (Mm.sample x.m b).1, Mm.lst (x.h ++ (Mm.sample x.m b).2)⟩) (bs ++ [b]) false ∧ Kept (fun g => g = x.q ∨ g = gn) wr w' ∧ (s' = s0 ∨ ∃ g, s' = some ⟨g, 0, none⟩ ∧ wr.heap.size ≤ g)) :=
            node_any wr p gn qb N' (bs ++ [b]) false k ⟨x.q, s0, x.m, x.h⟩ (bsg b) HMr.out.wi h0 HMr.out.tab _ _ (by rw [bsg_ne])
          have HX : Hid (N[k]? = some x) := hx
          have H0 : Hid (N'[k]? = some ⟨x.q, s0, x.m, x.h⟩) := h0
          have h3 : (Mm.sample x.m b).2.length ≤ 3 := Mm.sample_len _ _
          have h24 := HEl.out k
          have HL3 : Hid ((evk N b k).length + (Mm.sample x.m b).2.length ≤ 1000) := by show _ ≤ _; omega
          clear hx h0 h3 h24 hN'
          go_wp2_with fail
          refine HC.out.mono ?_
          rintro e w1 ⟨s, cap, s', rfl, hE1, hW1, hK1, hs1⟩
          have HE1 : Hid (EvAt wr.heap.size w1 s cap (Mm.sample x.m b).2) := hE1
          have HEA : Hid (EvAt w.heap.size w1 sA cA (evk N b k)) := HMr.out.ev.on (fun g o e => hK1.block g (HMr.out.ev.zero g o e).2.2 (fun hq => HMr.out.sep g o e (hq.elim (fun h => h ▸ Or.inr (Or.inr (Or.inr ⟨_, List.mem_of_getElem? H0.out, Or.inl rfl⟩)) ) (fun h => Or.inr (Or.inl h)))))
          have HW1 : Hid (WI w1 p gn qb (N'.set k ⟨x.q, s', (Mm.sample x.m b).1, Mm.lst (x.h ++ (Mm.sample x.m b).2)⟩) (bs ++ [b]) false) := hW1
          have HK1 : Hid (Kept (fun g => g = x.q ∨ g = gn) wr w1) := hK1
          have HS1 : Hid (s' = s0 ∨ ∃ g, s' = some ⟨g, 0, none⟩ ∧ wr.heap.size ≤ g) := hs1
          have HZ1 : Hid (w.heap.size ≤ w1.heap.size) := Nat.le_trans HMr.out.kept.size hK1.size
          obtain ⟨l2, hl2⟩ : ∃ l2, (Mm.sample x.m b).2.length = l2 := ⟨_, rfl⟩
          have Hl2 : Hid (l2 = (Mm.sample x.m b).2.length) := hl2.symm
          rw [hl2]
          clear hE1 hW1 hK1 hs1 HC c0 hl2
          go_wp2_with (refine wpList_append_ev rfl (.tmp 29) (.tmp 37) rfl (B := w.heap.size) (B2 := wr.heap.size) (s := sA) (s2 := s) (n := m) (n2 := l2) (cap := cA) (cap2 := cap) (l := evk N b k) (l2 := (Mm.sample x.m b).2) rfl rfl Hm.out Hl2.out HEA.out HE1.out HZ1.out HL3.out ?_; intro s2 c2 w2 hE2 hg2 hp2)
          have HM2 : Hid (Mid w w2 p gn qb N (bs ++ [b]) b (k + 1) s2 c2 (N'.set k ⟨x.q, s', (Mm.sample x.m b).1, Mm.lst (x.h ++ (Mm.sample x.m b).2)⟩)) := mid_next HMr.out HX.out HW1.out HK1.out H0.out HS1.out hE2 hg2 hp2
          have Hm2 : Hid (m + l2 = (evk N b (k + 1)).length) := by show _ = _; rw [evk_next N b k x HX.out, List.length_append, ← Hm.out, ← Hl2.out]
          clear hE2 hg2 hp2
          go_wp2
          go_roundw
          case rel => exact ⟨k + 1, s2, c2, m + l2, _, by omega, rfl, rfl, Hm2, HM2⟩
          case measure => simp only [intOf]; omega
        · obtain rfl : k = n := by omega
          go_wp2
          go_ret
          exact ⟨sA, cA, N', by rw [← Hm.out]; rfl, HMr.out⟩
end Go.Proofs.YthkaekpoicodeaaGreatDoor
/- Package wire, over the landed code: New, Ask. -/
namespace Go.Proofs.YthkaekpoicodeaaGreatDoor
open Go.RowKit
set_option linter.unusedVariables false
def ndZ (n : Nat) : List Value := (List.replicate n [Value.pointer none, .slice none 0 0]).flatten
theorem ndInfo : (Tryz.prog.info? 66).map (fun i => (i.zero, i.size, i.bytes)) = some (some (.agg #[.pointer none, .slice none 0 0]), 2, 32) := by kernel_rfl
theorem ndZ_len (n : Nat) : (ndZ n).length = n * 2 := by
  unfold ndZ
  induction n with
  | zero => rfl
  | succ n ih => rw [List.replicate_succ, List.flatten_cons, List.length_append, ih]; show 2 + n * 2 = _; omega
theorem ndZ_get (n : Nat) : ∀ j, j < n * 2 → (ndZ n)[j]? = some (if j % 2 = 0 then .pointer none else .slice none 0 0) := by
  induction n with
  | zero => intro j hj; omega
  | succ n ih =>
    intro j hj
    have e : ndZ (n + 1) = .pointer none :: .slice none 0 0 :: ndZ n := rfl
    rw [e]
    match j, hj with
    | 0, _ => rfl
    | 1, _ => rfl
    | j + 2, hj =>
      have := ih j (by omega)
      rw [show (j + 2) % 2 = j % 2 by omega]
      exact this
theorem ndZ_made (n : Nat) : madeCells #[Value.pointer none, .slice none 0 0] (n * 2) = (ndZ n).toArray := by
  apply Array.ext'
  apply List.ext_getElem?
  intro j
  by_cases hj : j < n * 2
  · rw [show ((ndZ n).toArray).toList = ndZ n from rfl, ndZ_get n j hj]
    have h2 : j % 2 = 0 ∨ j % 2 = 1 := by omega
    rcases h2 with h | h
    · simp [madeCells, hj, h]
    · simp [madeCells, hj, h]
  · rw [List.getElem?_eq_none (by simp [size_madeCells]; omega), List.getElem?_eq_none (by show (ndZ n).length ≤ j; rw [ndZ_len]; omega)]
theorem run_makeNd (x : Int) (n : Nat) (hx : x = (n : Int)) (hn : n ≤ 8) (W : World) :
    (Instr.makeSlice 61 (.int .i64 x) (.int .i64 x)).run Tryz.prog W = .ok (.slice (some ⟨W.heap.size, 0, none⟩) n n) (W.alloc (.cells (ndZ n).toArray 66)) := by
  obtain ⟨i0, hi, hz0, hz1, hz2⟩ := info_parts ndInfo
  subst hx
  have h := run_make (P := Tryz.prog) W 61 66 i0 _ Tryz.underlying61 hi hz0 .i64 .i64 (n : Int) (n : Int) (by omega) (Int.le_refl _) (by rw [hz2]; omega) (by omega)
  rw [h]
  simp only [Int.toNat_natCast, hz1]
  rw [show (Value.agg #[Value.pointer none, .slice none 0 0]).cells = #[Value.pointer none, .slice none 0 0] from rfl, ndZ_made n]
/-- A wire in the making: so many nodes have their Mac. -/
structure NewI (w wx : World) (p gn qb K : Nat) (N : List Nd) : Prop where
  head : wx.heap[p]? = some (.cells #[.slice (some ⟨gn, 0, none⟩) K K, bptr qb] 63 (0, 0))
  row : wx.heap[gn]? = some (.cells (ndC N ++ ndZ (K - N.length)).toArray 66 (0, 0))
  fr : ∀ x ∈ N, x.m = Mm.fresh ∧ x.h = [] ∧ x.s = none
  mac : ∀ x ∈ N, MacAt wx x.q (fun g => g = x.q) x.m
  bus : BusAt wx qb (fun g => g = qb) [] false
  nod : (N.map (·.q)).Nodup
  len : N.length ≤ K
  lp : w.heap.size ≤ p
  lg : w.heap.size ≤ gn
  lb : w.heap.size ≤ qb
  lq : ∀ x ∈ N, w.heap.size ≤ x.q
  below : Below w.heap.size w wx
theorem newA {w w2 : World} {qb K : Nat} {F : Nat → Prop} (hA : BusAt w2 qb F [] false) (hF : ∀ g, F g → (w.drew.alloc (.cells (ndZ K).toArray 66)).heap.size ≤ g) (hb : Below (w.drew.alloc (.cells (ndZ K).toArray 66)).heap.size (w.drew.alloc (.cells (ndZ K).toArray 66)) w2) :
    NewI w (w2.alloc (.cells #[.slice (some ⟨w.heap.size, 0, none⟩) K K, bptr qb] 63)) w2.heap.size w.heap.size qb K [] := by
  have hz : (w.drew.alloc (.cells (ndZ K).toArray 66)).heap.size = w.heap.size + 1 := by simp
  have e := hA.1
  subst e
  have hq := hF qb rfl
  have hs := hb.size
  rw [hz] at hq hs
  have hw2 : w2.heap[w.heap.size]? = some (.cells (ndZ K).toArray 66 (0, 0)) := (hb.block _ (by omega)).trans (heap_alloc_new w.drew _)
  have hb0 : Below w.heap.size w (w.drew.alloc (.cells (ndZ K).toArray 66)) := ((Below.refl _ _).drew).alloc (Nat.le_refl _) _
  have hbl : Below w.heap.size w w2 := hb0.trans (hb.mono hb0.size)
  refine ⟨heap_alloc_new _ _, (Below.heap_alloc _ _ _ (by omega)).trans hw2, fun x hx => (by cases hx), fun x hx => (by cases hx), hA.onB (Below.heap_alloc _ _ _ hA.ty.lt), List.nodup_nil, Nat.zero_le _, by omega, Nat.le_refl _, by omega, fun x hx => (by cases hx), hbl.alloc (by omega) _⟩
theorem newB {w w2 : World} {qb K : Nat} {F : Nat → Prop} (hA : BusAt w2 qb F [] false) (hF : ∀ g, F g → w.drew.heap.size ≤ g) (hb : Below w.drew.heap.size w.drew w2) :
    NewI w ((w2.alloc (.cells (ndZ K).toArray 66)).alloc (.cells #[.slice (some ⟨w2.heap.size, 0, none⟩) K K, bptr qb] 63)) (w2.heap.size + 1) w2.heap.size qb K [] := by
  have e := hA.1
  subst e
  have hq : w.heap.size ≤ qb := hF qb rfl
  have hs : w.heap.size ≤ w2.heap.size := hb.size
  have hz : (w2.alloc (.cells (ndZ K).toArray 66)).heap.size = w2.heap.size + 1 := by simp
  have hbl : Below w.heap.size w w2 := ((Below.refl _ _).drew).trans hb
  refine ⟨hz ▸ heap_alloc_new _ _, (Below.heap_alloc _ _ _ (by omega)).trans (heap_alloc_new _ _), fun x hx => (by cases hx), fun x hx => (by cases hx), (hA.onB (Below.heap_alloc _ _ _ hA.ty.lt)).onB (Below.heap_alloc _ _ _ (by have := hA.ty.lt; omega)), List.nodup_nil, Nat.zero_le _, by omega, by omega, hq, fun x hx => (by cases hx), (hbl.alloc (by omega) _).alloc (by rw [hz]; omega) _⟩
theorem NewI.c0 {w wx : World} {p gn qb K : Nat} {N : List Nd} (h : NewI w wx p gn qb K N) : wx.cell? ⟨p, 0, none⟩ = some (.slice (some ⟨gn, 0, none⟩) K K) := by rw [cell_of_row _ _ _ _ _ _ h.head]; rfl
theorem NewI.on {w wx w' : World} {p gn qb K : Nat} {N : List Nd} (h : NewI w wx p gn qb K N) (hb : Below wx.heap.size wx w') : NewI w w' p gn qb K N :=
  ⟨(hb.block _ (Array.getElem?_eq_some_iff.1 h.head).1).trans h.head, (hb.block _ (Array.getElem?_eq_some_iff.1 h.row).1).trans h.row, h.fr, fun x hx => (h.mac x hx).onB (hb.block _ (h.mac x hx).ty.lt), h.bus.onB (hb.block _ h.bus.ty.lt), h.nod, h.len, h.lp, h.lg, h.lb, h.lq, h.below.trans (hb.mono h.below.size)⟩
theorem ndZ_cell (N : List Nd) (j : Nat) : (ndC N ++ ndZ (j + 1))[N.length * 2]? = some (.pointer none) := by
  rw [List.getElem?_append_right (by rw [ndC_length]; exact Nat.le_refl _), ndC_length, Nat.sub_self]
  rfl
theorem ndZ_set (N : List Nd) (j q : Nat) : (ndC N ++ ndZ (j + 1)).set (N.length * 2) (bptr q) = ndC (N ++ [⟨q, none, Mm.fresh, []⟩]) ++ ndZ j := by
  rw [List.set_append_right _ _ (by rw [ndC_length]; exact Nat.le_refl _), ndC_length, Nat.sub_self]
  have e : ndC (N ++ [⟨q, none, Mm.fresh, []⟩]) = ndC N ++ [bptr q, .slice none 0 0] := by unfold ndC; rw [List.flatMap_append]; rfl
  rw [e, List.append_assoc]
  rfl
theorem NewI.next {w wx w2 : World} {p gn qb K q : Nat} {N : List Nd} {F : Nat → Prop} (h : NewI w wx p gn qb K N) (hN : N.length < K) (hM : MacAt w2 q F Mm.fresh) (hF : ∀ g, F g → wx.heap.size ≤ g) (hb : Below wx.heap.size wx w2) :
    w2.cell? ⟨gn, N.length * 2, none⟩ = some (.pointer none) ∧ w2.frozen? ⟨gn, N.length * 2, none⟩ = false ∧ NewI w (w2.setCell ⟨gn, N.length * 2, none⟩ (bptr q)) p gn qb K (N ++ [⟨q, none, Mm.fresh, []⟩]) := by
  obtain ⟨t1, t2, t3, t4, t5, t6, t7, t8, t9, t10⟩ := ty_wn
  obtain ⟨j, hj⟩ : ∃ j, K - N.length = j + 1 := ⟨K - N.length - 1, by omega⟩
  have h2 := h.on hb
  have e := hM.1
  subst e
  have hq : wx.heap.size ≤ q := hF q rfl
  have hr := h2.row
  rw [hj] at hr
  have blk : ∀ g t, tyAt w2 g t → t ≠ 66 → (w2.setCell ⟨gn, N.length * 2, none⟩ (bptr q)).heap[g]? = w2.heap[g]? := fun g t hg ht => heap_setCell_other _ ⟨gn, N.length * 2, none⟩ g _ (ty_ne hg ⟨_, hr⟩ ht)
  refine ⟨by rw [cell_of_row _ _ _ _ _ _ hr, List.getElem?_toArray]; exact ndZ_cell N j, frozen_of_row _ _ _ _ _ hr, ?_⟩
  refine ⟨(blk p _ ⟨_, h2.head⟩ t1).trans h2.head, ?_, ?_, ?_, h2.bus.onB (blk qb _ h2.bus.ty (fun e => t5 e.symm)), ?_, by rw [List.length_append]; show N.length + 1 ≤ K; omega, h2.lp, h2.lg, h2.lb, ?_, h2.below.setCell h2.lg _⟩
  · rw [heap_setCell_same _ _ _ _ _ _ hr, List.setIfInBounds_toArray, ndZ_set, List.length_append, show K - (N.length + [(⟨q, none, Mm.fresh, []⟩ : Nd)].length) = j by show K - (N.length + 1) = j; omega]
  · intro x hx
    rcases List.mem_append.1 hx with k | k
    · exact h2.fr x k
    · simp at k; subst k; exact ⟨rfl, rfl, rfl⟩
  · intro x hx
    rcases List.mem_append.1 hx with k | k
    · exact (h2.mac x k).onB (blk _ _ (h2.mac x k).ty (fun e => t4 e.symm))
    · simp at k; subst k; exact hM.onB (blk _ _ hM.ty (fun e => t4 e.symm))
  · rw [List.map_append, List.nodup_append]
    refine ⟨h2.nod, by simp, ?_⟩
    intro a ha b hb' e
    obtain ⟨x, hx, rfl⟩ := List.mem_map.1 ha
    simp at hb'
    have := (h.mac x hx).ty.lt
    omega
  · intro x hx
    rcases List.mem_append.1 hx with k | k
    · exact h2.lq x k
    · simp at k; subst k; exact Nat.le_trans h.below.size hq
theorem NewI.end {w wx : World} {p gn qb K : Nat} {N : List Nd} (h : NewI w wx p gn qb K N) (hN : N.length = K) (h1 : 1 ≤ K) (h8 : K ≤ 8) : WI wx p gn qb N [] false := by
  refine ⟨by rw [hN]; exact h.head, ?_, h.mac, ?_, h.bus, h.nod, by omega, by omega⟩
  · have := h.row
    rw [hN, Nat.sub_self] at this
    rw [show ndZ 0 = [] from rfl, List.append_nil] at this
    exact this
  · intro x hx
    obtain ⟨_, e2, e3⟩ := h.fr x hx
    rw [e2, e3]
    exact ⟨EvAt.empty _ _, by decide⟩
theorem NewI.drew {w wx : World} {p gn qb K : Nat} {N : List Nd} (h : NewI w wx p gn qb K N) : NewI w wx.drew p gn qb K N := h.on ((Below.refl _ _).drew)
set_option maxRecDepth 100000 in
set_option maxHeartbeats 4000000 in
theorem wnew_any (w : World) (n : Int) (hT : Tab w) (hn : (Lit.int .i64 n).wf = true) :
    Calls Tryz.prog 5 #[.int .i64 n] w fun e w' => ∃ p gn qb N, e = .returned (bptr p) ∧ NewI w w' p gn qb (Mm.heldN n) N ∧ N.length = Mm.heldN n := by
  obtain ⟨K, hK⟩ : ∃ K, Mm.heldN n = K := ⟨_, rfl⟩
  have h1 : 1 ≤ K ∧ K ≤ 8 := by rw [← hK]; unfold Mm.heldN; omega
  obtain ⟨M, hM⟩ : ∃ M : Int, max n 1 = M := ⟨_, rfl⟩
  have hM8 : min M 8 = (K : Int) := by rw [← hK, ← hM]; unfold Mm.heldN; omega
  have hmk := fun W => run_makeNd (K : Int) K rfl h1.2 W
  obtain ⟨hK1, hK8⟩ := h1
  have HT : Hid (Tab w) := hT
  rw [hK]
  clear hK hT hn
  go_enter Tryz.func5, Tryz.ntmps5
  go_wp2_with fail
  go_cut [3] from 5 (fun v wx => ∃ p gn qb : Nat, v = bptr p ∧ Hid (NewI w wx p gn qb K []))
  case first =>
    go_region_with (go_at_call 19; refine (busSpec.new _).mono ?_; rintro e w2 ⟨qb, F, rfl, hA, hF, hb⟩; have HA : Hid (BusAt w2 qb F [] false) := hA; have HF : Hid (∀ g, F g → _ ≤ g) := hF; have HB : Hid (Below _ _ w2) := hb; clear hA hF hb)
    all_goals
      go_wp2_with fail
      go_meet
      case rel => first | exact ⟨_, _, qb, rfl, newA HA.out HF.out HB.out⟩ | exact ⟨_, _, qb, rfl, newB HA.out HF.out HB.out⟩
  case rest =>
    obtain ⟨p, gn, qb, rfl, HI⟩ := hcut
    have c0 := HI.out.c0
    clear hmk hM hM8
    go_wp2_with fail
    go_loopw [17] (fun i wr => ∃ (k : Nat) (N : List Nd), k ≤ K ∧ i = .int .i64 k ∧ Hid (N.length = k) ∧ Hid (NewI w wr p gn qb K N)) (fun i _ => K - (intOf i).toNat)
    case atStart => exact ⟨0, [], Nat.zero_le _, rfl, rfl, HI⟩
    case round =>
      clear c0 HI
      obtain ⟨k, N, hk, rfl, HN, HR⟩ := hrel
      by_cases hlt : k < K
      · have c0 := HR.out.c0
        have HRd : Hid (NewI w wr.drew p gn qb K N) := HR.out.drew
        have HTd : Hid (Tab wr.drew) := HT.out.below (HRd.out.below)
        go_wp2_with fail
        go_region_with (go_at_call 20; refine (macSpec.new _ HTd.out).mono ?_; rintro e w2 ⟨q, F, rfl, hA, hF, hb⟩; have HX := HRd.out.next (by rw [HN.out]; exact hlt) hA hF hb; rw [HN.out] at HX; obtain ⟨x1, x2, x3⟩ := HX; have HX3 : Hid (NewI w (w2.setCell ⟨gn, k * 2, none⟩ (bptr q)) p gn qb K (N ++ [⟨q, none, Mm.fresh, []⟩])) := x3; have c02 := (HRd.out.on hb).c0; clear hA hF hb x3)
        all_goals
          clear c0
          go_wp2
          go_roundw
          case rel => exact ⟨k + 1, _, by omega, rfl, by show _ = _; rw [List.length_append, HN.out]; rfl, HX3⟩
          case measure => simp only [intOf]; omega
      · obtain rfl : k = K := by omega
        go_wp2
        go_ret
        exact ⟨p, gn, qb, N, rfl, HR.out, HN.out⟩
end Go.Proofs.YthkaekpoicodeaaGreatDoor
/- Package wire, over the landed code: Ask. -/
namespace Go.Proofs.YthkaekpoicodeaaGreatDoor
open Go.RowKit
set_option linter.unusedVariables false
set_option maxRecDepth 100000 in
set_option maxHeartbeats 4000000 in
theorem waskNo_any (w : World) (p gn qb : Nat) (N : List Nd) (bs : List Bool) (fl : Bool) (i : Int) (f : Cm.Fr) (hi : ¬ (0 ≤ i ∧ i < N.length)) (h : WI w p gn qb N bs fl) : Calls Tryz.prog 9 #[bptr p, .int .i64 i, frV f] w fun e w' => e = .returned (.int .i64 141) ∧ Below w.heap.size w w' := by
  have hb1 : ∀ o, Below w.heap.size w (w.alloc o) := fun o => (Below.refl _ _).alloc (Nat.le_refl _) _
  have HI : Hid (∀ o, Calls Tryz.prog 24 #[bptr p, .int .i64 i] (w.alloc o) fun e w'' => e = .returned (.bool false) ∧ w'' = w.alloc o) := fun o => by
    have := wis_any (w.alloc o) p gn qb N bs fl i (h.below (hb1 o))
    rw [decide_eq_false hi] at this
    exact this
  have HB : Hid (∀ o, Below w.heap.size w (w.alloc o)) := hb1
  clear h hi hb1
  go_enter Tryz.func9, Tryz.ntmps9
  go_wp2_with fail
  refine (HI.out _).mono ?_
  rintro e w' ⟨rfl, hw⟩
  rw [hw]
  clear hw HI
  go_wp2
  go_ret
  exact ⟨rfl, HB.out _⟩
set_option maxRecDepth 100000 in
set_option maxHeartbeats 4000000 in
theorem wask_any (w : World) (p gn qb : Nat) (N : List Nd) (bs : List Bool) (fl : Bool) (i : Nat) (x : Nd) (f : Cm.Fr) (hx : N[i]? = some x) (hT : Tab w) (hf : f.2.1 < 4294967296) (hd : f.2.2.2.length ≤ 1000) (h : WI w p gn qb N bs fl) :
    Calls Tryz.prog 9 #[bptr p, .int .i64 (i : Int), frV f] w fun e w' => e = .returned (.int .i64 ((Mm.ask x.m f).1 : Int)) ∧ WI w' p gn qb (N.set i ⟨x.q, x.s, (Mm.ask x.m f).2, x.h⟩) bs fl ∧ Kept (fun g => g = x.q) w w' := by
  have hi : i < N.length := (List.getElem?_eq_some_iff.1 hx).1
  obtain ⟨hlo, hhi⟩ : 1 ≤ N.length ∧ N.length ≤ 8 := ⟨h.lo, h.hi⟩
  obtain ⟨O, hO⟩ : ∃ O, O = (Obj.cells #[.bool f.1, .int .u32 (f.2.1 : Int), .bool f.2.2.1, .string ⟨f.2.2.2.toArray⟩] 35) := ⟨_, rfl⟩
  have hb1 : Below w.heap.size w (w.alloc O).drew := ((Below.refl _ _).alloc (Nat.le_refl _) _).drew
  have HW1 : Hid (WI (w.alloc O).drew p gn qb N bs fl) := h.below hb1
  have HT1 : Hid (Tab (w.alloc O).drew) := hT.below hb1
  have HB1 : Hid (Below w.heap.size w (w.alloc O).drew) := hb1
  have HI : Hid (Calls Tryz.prog 24 #[bptr p, .int .i64 (i : Int)] (w.alloc O) fun e w'' => e = .returned (.bool true) ∧ w'' = w.alloc O) := by
    have := wis_any (w.alloc O) p gn qb N bs fl i (h.below ((Below.refl _ _).alloc (Nat.le_refl _) _))
    rw [decide_eq_true ⟨by omega, by omega⟩] at this
    exact this
  have HA : Hid (Calls Tryz.prog 25 #[bptr x.q, frV f] (w.alloc O).drew fun e w' => e = .returned (.int .i64 ((Mm.ask x.m f).1 : Int)) ∧ WI w' p gn qb (N.set i ⟨x.q, x.s, (Mm.ask x.m f).2, x.h⟩) bs fl ∧ Kept (fun g => g = x.q) w w') :=
    (macSpec.ask _ x.q _ x.m f (HW1.out.mac x (List.mem_of_getElem? hx)) HT1.out hf hd).mono fun e w' ⟨he, F', hA', _, hk⟩ => ⟨he, HW1.out.setM hx hk (by have := hA'.1; subst this; exact hA'), (Kept.of_below (F := fun g => g = x.q) HB1.out).trans hk (fun g hg => Or.inl hg)⟩
  have HC : Hid (∀ w1, w1 = (w.alloc O).drew → w1.cell? ⟨w.heap.size, 0, none⟩ = some (.bool f.1) ∧ w1.cell? ⟨w.heap.size, 1, none⟩ = some (.int .u32 (f.2.1 : Int)) ∧ w1.cell? ⟨w.heap.size, 2, none⟩ = some (.bool f.2.2.1) ∧ w1.cell? ⟨w.heap.size, 3, none⟩ = some (.string ⟨f.2.2.2.toArray⟩) ∧ w1.cell? ⟨p, 0, none⟩ = some (.slice (some ⟨gn, 0, none⟩) N.length N.length) ∧ w1.cell? ⟨gn, i * 2, none⟩ = some (bptr x.q)) := fun w1 hw => by
    subst hw
    have hh : (w.alloc O).drew.heap[w.heap.size]? = some (.cells #[.bool f.1, .int .u32 (f.2.1 : Int), .bool f.2.2.1, .string ⟨f.2.2.2.toArray⟩] 35 (0, 0)) := by rw [hO]; exact heap_alloc_new _ _
    obtain ⟨a, b, c, d, _⟩ := four_cells hh
    exact ⟨a, b, c, d, HW1.out.c0, HW1.out.n0 hx⟩
  rw [hO] at HI HA HC
  clear h hx hT hb1 HW1 HT1 HB1 hf hd hO
  generalize (Mm.ask x.m f).1 = R at *
  generalize N.length = n at *
  go_enter Tryz.func9, Tryz.ntmps9
  go_wp2_with fail
  refine HI.out.mono ?_
  rintro e w' ⟨rfl, hw⟩
  rw [hw]
  clear hw HI
  go_wp2_with fail
  refine Lw.region_tail 9 (by kernel_rfl) (by kernel_rfl) ?_
  intro w1 hw1
  obtain ⟨a0, a1, a2, a3, c0, n0⟩ := HC.out w1 hw1
  have HA1 : Hid (Calls Tryz.prog 25 #[bptr x.q, frV f] w1 fun e w' => e = .returned (.int .i64 (R : Int)) ∧ WI w' p gn qb (N.set i ⟨x.q, x.s, (Mm.ask x.m f).2, x.h⟩) bs fl ∧ Kept (fun g => g = x.q) w w') := hw1 ▸ HA.out
  clear hw1 HC HA
  simp only [List.take_succ_cons, List.take_zero, List.drop_succ_cons, List.drop_zero]
  repeat (first | still_step)
  refine wpStill_nil ?_
  go_wp2_with fail
  refine HA1.out.mono ?_
  rintro e w2 ⟨rfl, h2, k2⟩
  have H2 : Hid (WI w2 p gn qb (N.set i ⟨x.q, x.s, (Mm.ask x.m f).2, x.h⟩) bs fl ∧ Kept (fun g => g = x.q) w w2) := ⟨h2, k2⟩
  clear h2 k2 HA1 a0 a1 a2 a3 c0 n0
  go_wp2
  go_ret
  exact ⟨rfl, H2.out⟩
end Go.Proofs.YthkaekpoicodeaaGreatDoor
/- Package wire, over the landed code: Copy. -/
namespace Go.Proofs.YthkaekpoicodeaaGreatDoor
open Go.RowKit
set_option linter.unusedVariables false
/-- A wire that is being copied: so many nodes have been. -/
structure CopI (w wx : World) (p gn qb : Nat) (S : List Nd) (bs : List Bool) (gc : Nat) (N : List Nd) : Prop where
  src : WI wx p gn qb S bs false
  row : wx.heap[gc]? = some (.cells (ndC N ++ ndZ (S.length - N.length)).toArray 66 (0, 0))
  ms : N.map (·.m) = (S.take N.length).map (·.m)
  hs : N.map (·.h) = (S.take N.length).map (·.h)
  mac : ∀ x ∈ N, MacAt wx x.q (fun g => g = x.q) x.m
  ev : ∀ x ∈ N, EvB wx x.s x.h
  nod : (N.map (·.q)).Nodup
  len : N.length ≤ S.length
  lg : w.heap.size ≤ gc
  lq : ∀ x ∈ N, w.heap.size ≤ x.q ∧ ∀ g o, x.s = some ⟨g, o, none⟩ → w.heap.size ≤ g
  below : Below w.heap.size w wx
  tab : Tab wx
theorem CopI.on {w wx w' : World} {p gn qb : Nat} {S : List Nd} {bs : List Bool} {gc : Nat} {N : List Nd} (h : CopI w wx p gn qb S bs gc N) (hb : Below wx.heap.size wx w') : CopI w w' p gn qb S bs gc N :=
  ⟨h.src.below hb, (hb.block _ (Array.getElem?_eq_some_iff.1 h.row).1).trans h.row, h.ms, h.hs, fun x hx => (h.mac x hx).onB (hb.block _ (h.mac x hx).ty.lt), fun x hx => (h.ev x hx).onB (fun g o e => hb.block _ ((h.ev x hx).ty e).lt), h.nod, h.len, h.lg, h.lq, h.below.trans (hb.mono h.below.size), h.tab.below hb⟩
theorem ndZ_cell1 (N : List Nd) (j : Nat) : (ndC N ++ ndZ (j + 1))[N.length * 2 + 1]? = some (.slice none 0 0) := by
  rw [List.getElem?_append_right (by rw [ndC_length]; omega), ndC_length, show N.length * 2 + 1 - N.length * 2 = 1 by omega]
  rfl
theorem ndZ_set2 (N : List Nd) (j : Nat) (x : Nd) : ((ndC N ++ ndZ (j + 1)).set (N.length * 2) (bptr x.q)).set (N.length * 2 + 1) (.slice x.s x.h.length x.h.length) = ndC (N ++ [x]) ++ ndZ j := by
  rw [List.set_append_right _ _ (by rw [ndC_length]; exact Nat.le_refl _), ndC_length, Nat.sub_self, List.set_append_right _ _ (by rw [ndC_length]; omega), ndC_length, show N.length * 2 + 1 - N.length * 2 = 1 by omega]
  have e : ndC (N ++ [x]) = ndC N ++ [bptr x.q, .slice x.s x.h.length x.h.length] := by unfold ndC; rw [List.flatMap_append]; simp [ndV]
  rw [e, List.append_assoc]
  rfl
theorem CopI.cells {w wx : World} {p gn qb : Nat} {S : List Nd} {bs : List Bool} {gc : Nat} {N : List Nd} (h : CopI w wx p gn qb S bs gc N) (hN : N.length < S.length) :
    wx.cell? ⟨gc, N.length * 2, none⟩ = some (.pointer none) ∧ wx.cell? ⟨gc, N.length * 2 + 1, none⟩ = some (.slice none 0 0) ∧ ∀ k, wx.frozen? ⟨gc, k, none⟩ = false := by
  obtain ⟨j, hj⟩ : ∃ j, S.length - N.length = j + 1 := ⟨S.length - N.length - 1, by omega⟩
  have hr := h.row
  rw [hj] at hr
  exact ⟨by rw [cell_of_row _ _ _ _ _ _ hr, List.getElem?_toArray]; exact ndZ_cell N j, by rw [cell_of_row _ _ _ _ _ _ hr, List.getElem?_toArray]; exact ndZ_cell1 N j, fun k => frozen_of_row _ _ _ _ _ hr⟩
/-- One node more. -/
theorem CopI.next {w wx : World} {p gn qb : Nat} {S : List Nd} {bs : List Bool} {gc : Nat} {N : List Nd} (h : CopI w wx p gn qb S bs gc N) (hN : N.length < S.length) {x : Nd} (hx : S[N.length]? = some x) {q : Nat} {s : Option Addr} (hM : MacAt wx q (fun g => g = q) x.m) (hE : EvB wx s x.h) (hq : w.heap.size ≤ q) (hnew : ∀ y ∈ N, y.q ≠ q) (hs : ∀ g o, s = some ⟨g, o, none⟩ → w.heap.size ≤ g) :
    CopI w ((wx.setCell ⟨gc, N.length * 2, none⟩ (bptr q)).setCell ⟨gc, N.length * 2 + 1, none⟩ (.slice s x.h.length x.h.length)) p gn qb S bs gc (N ++ [⟨q, s, x.m, x.h⟩]) := by
  obtain ⟨t1, t2, t3, t4, t5, t6, t7, t8, t9, t10⟩ := ty_wn
  obtain ⟨j, hj⟩ : ∃ j, S.length - N.length = j + 1 := ⟨S.length - N.length - 1, by omega⟩
  have hr := h.row
  rw [hj] at hr
  have hgn : gn ≠ gc := by
    intro e
    have h1 := h.src.n0 hx
    rw [e] at h1
    have h2 := (h.cells hN).1
    rw [h1] at h2
    cases h2
  have hlen : (N ++ [(⟨q, s, x.m, x.h⟩ : Nd)]).length = N.length + 1 := by rw [List.length_append]; rfl
  have htk : ∀ {α : Type} (f : Nd → α), (S.take (N.length + 1)).map f = (S.take N.length).map f ++ [f x] := fun f => by rw [List.take_add_one, hx, List.map_append]; rfl
  generalize hw2 : (wx.setCell ⟨gc, N.length * 2, none⟩ (bptr q)).setCell ⟨gc, N.length * 2 + 1, none⟩ (.slice s x.h.length x.h.length) = w2
  have blk0 : ∀ g, g ≠ gc → w2.heap[g]? = wx.heap[g]? := fun g hg => by
    rw [← hw2, heap_setCell_other _ ⟨gc, N.length * 2 + 1, none⟩ g _ hg, heap_setCell_other _ ⟨gc, N.length * 2, none⟩ g _ hg]
  have blk : ∀ g t, tyAt wx g t → t ≠ 66 → w2.heap[g]? = wx.heap[g]? := fun g t hg ht => blk0 g (ty_ne hg ⟨_, hr⟩ ht)
  have hsz : w2.heap.size = wx.heap.size := by rw [← hw2]; simp
  have hbel : Below w.heap.size w w2 := by rw [← hw2]; exact (h.below.setCell h.lg _).setCell h.lg _
  refine ⟨h.src.on ?_, ?_, ?_, ?_, ?_, ?_, ?_, by rw [hlen]; omega, h.lg, ?_, hbel, ?_⟩
  · intro g hg
    refine blk0 g (fun e => ?_)
    subst e
    rcases hg with e | e | e | ⟨y, hy, e | ⟨o, e⟩⟩
    · subst e; exact ty_ne ⟨_, h.src.head⟩ ⟨_, hr⟩ t1 rfl
    · exact hgn e.symm
    · subst e; exact ty_ne h.src.bus.ty ⟨_, hr⟩ (fun k => t5 k.symm) rfl
    · subst e; exact ty_ne (h.src.mac y hy).ty ⟨_, hr⟩ (fun k => t4 k.symm) rfl
    · exact ty_ne ((h.src.ev y hy).ty e) ⟨_, hr⟩ t9 rfl
  · rw [hlen, show S.length - (N.length + 1) = j by omega, ← ndZ_set2 N j ⟨q, s, x.m, x.h⟩, ← hw2]
    have h1 : (wx.setCell ⟨gc, N.length * 2, none⟩ (bptr q)).heap[gc]? = some (.cells ((ndC N ++ ndZ (j + 1)).set (N.length * 2) (bptr q)).toArray 66 (0, 0)) := by rw [heap_setCell_same _ _ _ _ _ _ hr, List.setIfInBounds_toArray]
    rw [heap_setCell_same _ _ _ _ _ _ h1, List.setIfInBounds_toArray]
  · rw [hlen, htk, List.map_append, h.ms]; rfl
  · rw [hlen, htk, List.map_append, h.hs]; rfl
  · intro y hy
    rcases List.mem_append.1 hy with k | k
    · exact (h.mac y k).onB (blk _ _ (h.mac y k).ty (fun e => t4 e.symm))
    · simp at k; subst k; exact hM.onB (blk _ _ hM.ty (fun e => t4 e.symm))
  · intro y hy
    rcases List.mem_append.1 hy with k | k
    · exact (h.ev y k).onB (fun g o e => blk _ _ ((h.ev y k).ty e) t9)
    · simp at k; subst k; exact hE.onB (fun g o e => blk _ _ (hE.ty e) t9)
  · rw [List.map_append, List.nodup_append]
    refine ⟨h.nod, by simp, ?_⟩
    intro a ha b hb' e
    obtain ⟨y, hy, rfl⟩ := List.mem_map.1 ha
    simp at hb'
    exact hnew y hy (e.trans hb')
  · intro y hy
    rcases List.mem_append.1 hy with k | k
    · exact h.lq y k
    · simp at k; subst k; exact ⟨hq, hs⟩
  · refine h.tab.kept (F := fun g => g = gc) (fun e => ?_) ⟨by rw [← hw2]; rfl, by rw [← hw2]; rfl, by rw [← hw2]; rfl, by rw [hsz]; exact Nat.le_refl _, fun k _ hk => blk0 k hk⟩
    obtain ⟨a, b, ha, _⟩ := tab_at h.tab
    have hc : wx.cell? ⟨gc, 0, none⟩ = (ndC N ++ ndZ (j + 1))[0]? := by rw [cell_of_row _ _ _ _ _ _ hr, List.getElem?_toArray]
    rw [← e, ha] at hc
    cases N with
    | nil => cases hc
    | cons y l => cases hc
theorem CopI.start {w : World} {p gn qb : Nat} {S : List Nd} {bs : List Bool} (h : WI w p gn qb S bs false) (hT : Tab w) : CopI w (w.alloc (.cells (ndZ S.length).toArray 66)) p gn qb S bs w.heap.size [] := by
  have hb : Below w.heap.size w (w.alloc (.cells (ndZ S.length).toArray 66)) := (Below.refl _ _).alloc (Nat.le_refl _) _
  exact ⟨h.below hb, heap_alloc_new _ _, rfl, rfl, fun x hx => (by cases hx), fun x hx => (by cases hx), List.nodup_nil, Nat.zero_le _, Nat.le_refl _, fun x hx => (by cases hx), hb, hT.below hb⟩
set_option maxRecDepth 100000 in
set_option maxHeartbeats 4000000 in
theorem wcopy_any (w : World) (p gn qb : Nat) (S : List Nd) (bs : List Bool) (h : WI w p gn qb S bs false) (hT : Tab w) (hl : bs.length ≤ 100000) :
    Calls Tryz.prog 18 #[bptr p] w fun e w' => ∃ q gn' qb' N, e = .returned (bptr q) ∧ WI w' q gn' qb' N bs false ∧ N.map (·.m) = S.map (·.m) ∧ N.map (·.h) = S.map (·.h) ∧ (∀ g, fpw q gn' qb' N g → w.heap.size ≤ g) ∧ Below w.heap.size w w' := by
  have c0 := h.c0
  obtain ⟨hlo, hhi⟩ : 1 ≤ S.length ∧ S.length ≤ 8 := ⟨h.lo, h.hi⟩
  have HI : Hid (CopI w (w.alloc (.cells (ndZ S.length).toArray 66)) p gn qb S bs w.heap.size []) := CopI.start h hT
  have c0' : ∀ o, (w.alloc o).cell? ⟨p, 0, none⟩ = some (.slice (some ⟨gn, 0, none⟩) S.length S.length) := fun o => (h.below ((Below.refl _ _).alloc (Nat.le_refl _) _)).c0
  clear h hT
  obtain ⟨n, hn⟩ : ∃ n, S.length = n := ⟨_, rfl⟩
  have HNn : Hid (S.length = n) := hn
  rw [hn] at c0 c0' hlo hhi HI
  clear hn
  have hmk := fun W => run_makeNd (n : Int) n rfl hhi W
  go_enter Tryz.func18, Tryz.ntmps18
  go_wp2
  go_loopw [17] (fun i wr => ∃ (k : Nat) (N : List Nd), k ≤ n ∧ i = .int .i64 k ∧ Hid (N.length = k) ∧ Hid (CopI w wr p gn qb S bs w.heap.size N)) (fun i _ => n - (intOf i).toNat)
  case atStart => exact ⟨0, [], Nat.zero_le _, rfl, rfl, HI⟩
  case round =>
    clear c0 c0' HI hmk
    obtain ⟨k, N, hk, rfl, HN, HR⟩ := hrel
    by_cases hlt : k < n
    · obtain ⟨x, hx⟩ : ∃ x, S[k]? = some x := ⟨_, List.getElem?_eq_getElem (by rw [HNn.out]; exact hlt)⟩
      have n0 := HR.out.src.n0 hx
      have n1 := HR.out.src.n1 hx
      have n0' : ∀ o, (wr.alloc o).cell? ⟨gn, k * 2, none⟩ = some (bptr x.q) := fun o => (HR.out.src.below ((Below.refl _ _).alloc (Nat.le_refl _) _)).n0 hx
      have n1' : ∀ o, (wr.alloc o).cell? ⟨gn, k * 2 + 1, none⟩ = some (.slice x.s x.h.length x.h.length) := fun o => (HR.out.src.below ((Below.refl _ _).alloc (Nat.le_refl _) _)).n1 hx
      obtain ⟨WD, hWD⟩ : ∃ WD, WD = (wr.alloc (.cells #[bptr x.q, .slice x.s x.h.length x.h.length] 66)).drew := ⟨_, rfl⟩
      have hbD : Below wr.heap.size wr WD := by rw [hWD]; exact ((Below.refl _ _).alloc (Nat.le_refl _) _).drew
      have HRd : Hid (CopI w WD p gn qb S bs w.heap.size N) := HR.out.on hbD
      have hcb : WD.heap[wr.heap.size]? = some (.cells #[bptr x.q, .slice x.s x.h.length x.h.length] 66 (0, 0)) := by rw [hWD]; exact heap_alloc_new _ _
      have hcl : wr.heap.size < WD.heap.size := (Array.getElem?_eq_some_iff.1 hcb).1
      have HC1 : Hid (∀ w2, Below WD.heap.size WD w2 → w2.cell? ⟨wr.heap.size, 1, none⟩ = some (.slice x.s x.h.length x.h.length)) := fun w2 hb2 => by rw [hb2.cell (p := ⟨wr.heap.size, 1, none⟩) hcl, cell_of_row _ _ _ _ _ _ hcb]; rfl
      have d0 : WD.cell? ⟨wr.heap.size, 0, none⟩ = some (bptr x.q) := by rw [cell_of_row _ _ _ _ _ _ hcb]; rfl
      have d1 : WD.cell? ⟨wr.heap.size, 1, none⟩ = some (.slice x.s x.h.length x.h.length) := HC1.out _ (Below.refl _ _)
      have HM : Hid (Calls Tryz.prog 33 #[bptr x.q] WD fun e w' => ∃ q G, e = .returned (bptr q) ∧ MacAt w' q G x.m ∧ (∀ g, G g → WD.heap.size ≤ g) ∧ Below WD.heap.size WD w') := macSpec.copy WD x.q _ x.m (HRd.out.src.mac x (List.mem_of_getElem? hx)) HRd.out.tab
      have HLt : Hid (∀ wA, CopI w wA p gn qb S bs w.heap.size N → Calls Tryz.prog 32 #[.slice x.s x.h.length x.h.length] wA fun e w' => e = .returned (.slice (some ⟨wA.heap.size, 0, none⟩) x.h.length x.h.length) ∧ EvAt wA.heap.size w' (some ⟨wA.heap.size, 0, none⟩) x.h.length x.h ∧ Below wA.heap.size wA w') := fun wA hA => by
        have HV := hA.src.ev x (List.mem_of_getElem? hx)
        have := latest_any wA x.s x.h.length x.h _ rfl HV.1 (Nat.le_trans HV.2 (by decide))
        rw [Mm.lst_id HV.2] at this
        exact this
      have HX : Hid (S[N.length]? = some x) := by show _ = _; rw [HN.out]; exact hx
      have H100 : Hid (x.h.length ≤ 100) := (HR.out.src.ev x (List.mem_of_getElem? hx)).2
      have HWD : Hid (WD = (wr.alloc (.cells #[bptr x.q, .slice x.s x.h.length x.h.length] 66)).drew) := hWD
      rw [hWD] at d0 d1
      clear hbD hcb hcl hx hWD
      go_wp2_with fail
      go_region_with (first | (go_at_call 33; rw [← HWD.out]; refine HM.out.mono ?_; rintro e wA ⟨q, G, rfl, hA, hG, hbA⟩; have dA := HC1.out wA hbA; have HRA : Hid (CopI w wA p gn qb S bs w.heap.size N) := HRd.out.on hbA; have HMA : Hid (MacAt wA q G x.m) := hA; have HQ : Hid (WD.heap.size ≤ q) := hG q (by rw [hA.1]); clear hA hG hbA) | (go_at_call 32; refine (HLt.out _ HRA.out).mono ?_; rintro e wB ⟨rfl, hE, hbB⟩; have HRB : Hid (CopI w wB p gn qb S bs w.heap.size N) := HRA.out.on hbB; have HMB : Hid (MacAt wB q G x.m) := HMA.out.onB (hbB.block _ HMA.out.ty.lt); have HEB : Hid (EvB wB (some ⟨wA.heap.size, 0, none⟩) x.h) := ⟨hE.base (Nat.zero_le _), H100.out⟩; obtain ⟨b1, b2, b3⟩ := HRB.out.cells (by rw [HN.out, HNn.out]; exact hlt); rw [HN.out] at b1 b2; have b4 := b3 (k * 2); have b5 := b3 (k * 2 + 1); clear hE hbB b3))
      all_goals
        have HQ2 : Hid (w.heap.size ≤ wA.heap.size ∧ w.heap.size ≤ q ∧ ∀ y ∈ N, y.q ≠ q) := ⟨HRA.out.below.size, Nat.le_trans HRd.out.below.size HQ.out, fun y hy e => by have := (HRd.out.mac y hy).ty.lt; have := HQ.out; omega⟩
        have HM3 : Hid (MacAt wB q (fun g => g = q) x.m) := by have e := HMB.out.1; have h := HMB.out; rw [e] at h; exact h
        have HF : Hid (CopI w ((wB.setCell ⟨w.heap.size, k * 2, none⟩ (bptr q)).setCell ⟨w.heap.size, k * 2 + 1, none⟩ (.slice (some ⟨wA.heap.size, 0, none⟩) x.h.length x.h.length)) p gn qb S bs w.heap.size (N ++ [⟨q, some ⟨wA.heap.size, 0, none⟩, x.m, x.h⟩])) := by
          have := HRB.out.next (by rw [HN.out, HNn.out]; exact hlt) HX.out HM3.out HEB.out HQ2.out.2.1 HQ2.out.2.2 (fun g o e => by injection e with e; injection e with e1; rw [← e1]; exact HQ2.out.1)
          rw [HN.out] at this
          exact this
        clear n0 n1 n0' n1' d0 d1 dA HM HLt HC1
        go_wp2
        go_roundw
        case rel => exact ⟨k + 1, _, by omega, rfl, by show _ = _; rw [List.length_append, HN.out]; rfl, HF⟩
        case measure => simp only [intOf]; omega
    · obtain rfl : k = n := by omega
      have c1 := HR.out.src.c1
      have HB : Hid (Calls Tryz.prog 34 #[bptr qb] wr fun e w' => ∃ q G, e = .returned (bptr q) ∧ BusAt w' q G bs false ∧ (∀ g, G g → wr.heap.size ≤ g) ∧ Below wr.heap.size wr w') := busSpec.copy wr qb _ bs false HR.out.src.bus (by omega)
      go_wp2_with fail
      refine HB.out.mono ?_
      rintro e w2 ⟨q2, G2, rfl, hB2, hG2, hb2⟩
      have e2 := hB2.1
      subst e2
      have HQ2 : Hid (wr.heap.size ≤ q2) := hG2 q2 rfl
      have HR2 : Hid (CopI w w2 p gn qb S bs w.heap.size N) := HR.out.on hb2
      have HB2 : Hid (BusAt w2 q2 (fun g => g = q2) bs false) := hB2
      clear hB2 hG2 hb2 HB c1
      go_wp2
      go_ret
      have hNS : N.length = S.length := HN.out.trans HNn.out.symm
      have hb3 : Below w2.heap.size w2 (w2.alloc (.cells #[.slice (some ⟨w.heap.size, 0, none⟩) k k, bptr q2] 63)) := (Below.refl _ _).alloc (Nat.le_refl _) _
      have hR3 := HR2.out.on hb3
      refine ⟨w2.heap.size, w.heap.size, q2, N, rfl, ⟨?_, ?_, hR3.mac, hR3.ev, HB2.out.onB (hb3.block _ HB2.out.ty.lt), hR3.nod, (by rw [HN.out]; exact hlo), (by rw [HN.out]; exact hhi)⟩, ?_, ?_, ?_, hR3.below⟩
      · rw [HN.out]; exact heap_alloc_new _ _
      · have := hR3.row
        rw [hNS, Nat.sub_self, show ndZ 0 = [] from rfl, List.append_nil] at this
        exact this
      · rw [hR3.ms, hNS, List.take_length]
      · rw [hR3.hs, hNS, List.take_length]
      · rintro g (rfl | rfl | rfl | ⟨y, hy, rfl | ⟨o, e⟩⟩)
        · exact HR2.out.below.size
        · exact Nat.le_refl _
        · exact Nat.le_trans HR.out.below.size HQ2.out
        · exact (hR3.lq y hy).1
        · exact (hR3.lq y hy).2 g o e
end Go.Proofs.YthkaekpoicodeaaGreatDoor
/- Package wire, over the landed code: a wire as the laws want it. -/
namespace Go.Proofs.YthkaekpoicodeaaGreatDoor
open Go.RowKit
set_option linter.unusedVariables false
theorem EvAt.inn {B : Nat} {w : World} {s : Option Addr} {cap : Nat} {l : List Mm.Ev} (h : EvAt B w s cap l) : EvIn w s cap l := by
  refine ⟨h.cap, ?_, ?_⟩
  · rcases h.2 with ⟨h1, h2⟩ | ⟨g, c, cur, hv, hg, hh, hc, hm, _⟩
    · injection h1 with _ _ k; rw [k]; exact Nat.zero_le _
    · injection hv with _ _ k; rw [k]; exact hm
  · by_cases h0 : l = []
    · exact Or.inl h0
    · obtain ⟨g, rfl, hB, hlt, hc, hm, hcell⟩ := h.spot h0
      exact Or.inr ⟨g, 0, rfl, hlt, fun k v hk => by rw [Nat.zero_add]; exact hcell k v hk⟩
/-- The wire at block p, its blocks, its plain state. -/
def WireAt (w : World) (p : Nat) (F : Nat → Prop) (W : Mm.Wi) : Prop :=
  ∃ gn N, F = fpw p gn W.qb N ∧ WI w p gn W.qb N W.bs false ∧ W.ms = N.map (·.m) ∧ W.hs = N.map (·.h) ∧ W.qs = N.map (·.q)
theorem at_node {N : List Nd} {i : Nat} {m : Mm.St} (h : (N.map (·.m))[i]? = some m) : ∃ x, N[i]? = some x ∧ x.m = m := by
  rw [List.getElem?_map] at h
  cases hx : N[i]? with
  | none => rw [hx] at h; cases h
  | some x => rw [hx] at h; injection h with h; exact ⟨x, rfl, h⟩
theorem getD_q {N : List Nd} {i : Nat} {x : Nd} (h : N[i]? = some x) : (N.map (·.q)).getD i 0 = x.q := by rw [List.getD_eq_getElem?_getD, List.getElem?_map, h]; rfl
theorem getD_h {N : List Nd} {i : Nat} {x : Nd} (h : N[i]? = some x) : (N.map (·.h)).getD i [] = x.h := by rw [List.getD_eq_getElem?_getD, List.getElem?_map, h]; rfl
theorem getD_m {N : List Nd} {i : Nat} {x : Nd} (h : N[i]? = some x) : (N.map (·.m)).getD i Mm.fresh = x.m := by rw [List.getD_eq_getElem?_getD, List.getElem?_map, h]; rfl
theorem rep_map {α : Type} {N : List Nd} {f : Nd → α} {a : α} {K : Nat} (hl : N.length = K) (h : ∀ x ∈ N, f x = a) : N.map f = List.replicate K a := by
  rw [List.eq_replicate_iff]
  refine ⟨by rw [List.length_map, hl], fun b hb => ?_⟩
  obtain ⟨x, hx, rfl⟩ := List.mem_map.1 hb
  exact h x hx
theorem wireSpec : WireSpec WireAt where
  is := by
    constructor
    · rintro w w' p F W ⟨gn, N, rfl, h, h1, h2, h3⟩ hk
      exact ⟨gn, N, rfl, h.on hk, h1, h2, h3⟩
    · rintro w p F W ⟨gn, N, rfl, h, h1, h2, h3⟩
      exact h.lt
  sz := by
    rintro w p F W ⟨gn, N, rfl, h, h1, h2, h3⟩
    rw [h1, h2, h3]
    simp only [List.length_map]
    exact ⟨trivial, trivial, h.lo, h.hi⟩
  new := fun w n hT hn => (wnew_any w n hT hn).mono fun e w' ⟨p, gn, qb, N, he, hI, hl⟩ => by
    have hK : 1 ≤ Mm.heldN n ∧ Mm.heldN n ≤ 8 := by unfold Mm.heldN; omega
    refine ⟨p, _, N.map (·.q), qb, he, ⟨gn, N, rfl, hI.end hl hK.1 hK.2, (rep_map hl (fun x hx => (hI.fr x hx).1)).symm, (rep_map hl (fun x hx => (hI.fr x hx).2.1)).symm, rfl⟩, ?_, hI.below⟩
    rintro g (rfl | rfl | hq | ⟨x, hx, rfl | ⟨o, hs⟩⟩)
    · exact hI.lp
    · exact hI.lg
    · rw [hq]; exact hI.lb
    · exact hI.lq x hx
    · rw [(hI.fr x hx).2.2] at hs; cases hs
  cnt := by
    rintro w p F W ⟨gn, N, rfl, h, h1, h2, h3⟩
    rw [h1, List.length_map]
    exact wlen_any w p gn W.qb N W.bs false h
  ask := by
    rintro w p F W who f ⟨gn, N, rfl, h, h1, h2, h3⟩ hT hw hf hd
    unfold Mm.wask
    rw [h1, List.length_map]
    by_cases hi : 0 ≤ who ∧ who < (N.length : Int)
    · rw [if_pos hi]
      obtain ⟨i, rfl⟩ : ∃ i : Nat, who = (i : Int) := ⟨who.toNat, by omega⟩
      have hlt : i < N.length := by omega
      obtain ⟨x, hx⟩ : ∃ x, N[i]? = some x := ⟨_, List.getElem?_eq_getElem hlt⟩
      rw [Int.toNat_natCast, getD_m hx]
      refine (wask_any w p gn W.qb N W.bs false i x f hx hT hf hd h).mono fun e w' ⟨he, hW, hk⟩ => ⟨he, _, ⟨gn, _, rfl, hW, ?_, ?_, ?_⟩, ?_, hk.mono ?_⟩
      · show (N.map (·.m)).set i _ = _
        rw [List.map_set]
      · show W.hs = _
        rw [h2, List.map_set]
        exact (set_same (by rw [List.getElem?_map, hx]; rfl)).symm
      · show W.qs = _
        rw [h3, List.map_set]
        exact (set_same (by rw [List.getElem?_map, hx]; rfl)).symm
      · exact fpw_set (B := w.heap.size) hx rfl (Or.inl rfl)
      · rintro g rfl
        exact Or.inr (Or.inr (Or.inr ⟨x, List.mem_of_getElem? hx, Or.inl rfl⟩))
    · rw [if_neg hi]
      exact (waskNo_any w p gn W.qb N W.bs false who f hi h).mono fun e w' ⟨he, hb⟩ => ⟨he, _, ⟨gn, N, rfl, h.below hb, h1, h2, h3⟩, fun g hg => Or.inl hg, Kept.of_below hb⟩
  step := by
    rintro w p F W fl ⟨gn, N, rfl, h, h1, h2, h3⟩ hT hl
    refine (wstep_any w p gn W.qb N W.bs fl h hT hl _ rfl).mono fun e w' ⟨s, cap, N', he, hM⟩ => ?_
    have hev := hM.ev
    rw [evk_all] at hev
    obtain ⟨q1, q2, q3⟩ := sofar_end hM.so (Nat.le_refl _)
    unfold Mm.wtold Mm.wnext Mm.wbit
    rw [h1, h2]
    exact ⟨s, cap, he, hev.inn, _, ⟨gn, N', rfl, hM.wi, q2.symm, q3.symm, by show W.qs = _; rw [h3, q1]⟩, hM.fp, hM.kept⟩
  macOf := by
    rintro w p F W i ⟨gn, N, rfl, h, h1, h2, h3⟩ hi
    rw [h1, List.length_map] at hi
    have hx : N[i]? = some N[i] := List.getElem?_eq_getElem hi
    rw [h3, getD_q hx]
    exact wmac_any w p gn W.qb N W.bs false i _ hx h
  macNil := by
    rintro w p F W i ⟨gn, N, rfl, h, h1, h2, h3⟩ hw hi
    rw [h1, List.length_map] at hi
    exact wmacNil_any w p gn W.qb N W.bs false i hi h
  busy := by
    rintro w p F W i m ⟨gn, N, rfl, h, h1, h2, h3⟩ hT hi
    rw [h1] at hi
    obtain ⟨x, hx, rfl⟩ := at_node hi
    rw [h3, getD_q hx]
    exact macSpec.busy w x.q _ x.m (h.mac x (List.mem_of_getElem? hx)) hT
  counts := by
    rintro w p F W i m ⟨gn, N, rfl, h, h1, h2, h3⟩ hT hi
    rw [h1] at hi
    obtain ⟨x, hx, rfl⟩ := at_node hi
    rw [h3, getD_q hx]
    exact macSpec.counts w x.q _ x.m (h.mac x (List.mem_of_getElem? hx)) hT
  busOf := by
    rintro w p F W ⟨gn, N, rfl, h, h1, h2, h3⟩
    exact wbus_any w p gn W.qb N W.bs false h
  trace := by
    rintro w p F W ⟨gn, N, rfl, h, h1, h2, h3⟩ hl
    exact busSpec.trace w W.qb _ W.bs false h.bus (by omega)
  heard := by
    rintro w p F W i ⟨gn, N, rfl, h, h1, h2, h3⟩ hw
    rw [h1, List.length_map]
    by_cases hi : 0 ≤ i ∧ i < (N.length : Int)
    · rw [if_pos hi]
      obtain ⟨j, rfl⟩ : ∃ j : Nat, i = (j : Int) := ⟨i.toNat, by omega⟩
      have hx : N[j]? = some N[j] := List.getElem?_eq_getElem (by omega)
      rw [Int.toNat_natCast, h2, getD_h hx]
      exact (wheard_any w p gn W.qb N W.bs false j _ hx h).mono fun e w' ⟨he, hE, hb⟩ => ⟨_, _, he, hE.inn, hb⟩
    · rw [if_neg hi]
      exact (wheardNo_any w p gn W.qb N W.bs false i hi h).mono fun e w' ⟨he, hb⟩ => ⟨_, _, he, ⟨Nat.le_refl _, Nat.zero_le _, Or.inl rfl⟩, hb⟩
  heardNo := by
    rintro w p F W i ⟨gn, N, rfl, h, h1, h2, h3⟩ hw hi
    rw [h1, List.length_map] at hi
    exact wheardNo_any w p gn W.qb N W.bs false i hi h
  copy := by
    rintro w p F W ⟨gn, N, rfl, h, h1, h2, h3⟩ hT hl
    exact (wcopy_any w p gn W.qb N W.bs h hT hl).mono fun e w' ⟨q, gn', qb', N', he, hW, e1, e2, hg, hb⟩ => ⟨q, _, N'.map (·.q), qb', he, ⟨gn', N', rfl, hW, by show W.ms = _; rw [h1, e1], by show W.hs = _; rw [h2, e2], rfl⟩, hg, hb⟩
end Go.Proofs.YthkaekpoicodeaaGreatDoor
