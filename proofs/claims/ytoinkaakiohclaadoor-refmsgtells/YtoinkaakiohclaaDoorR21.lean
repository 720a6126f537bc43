/- Layer 21: the document's Build. -/
import Derived.Test.YtoinkaakiohclaaDoorA21
import Derived.Test.YtoinkaakiohclaaDoorP1
import Derived.Test.YtoinkaakiohclaaDoorBj
import Derived.Test.YtoinkaakiohclaaDoorHl
import Derived.Deep.CutBlock
import Derived.WalkMore
namespace Go.Proofs.YtoinkaakiohclaaDoor
open Go.RowKit Go.WideShapes
set_option linter.unusedVariables false
/-- A matrix' copy and a frame in the making, side by side. -/
structure Fx (w wB : World) (p q : Nat) (m : Mx.M) (a : Ma) (cs : Array Value) : Prop where
  mat : RowT 27 wB p (mCs m a)
  fra : RowT 30 wB q cs
  ne : w.heap.size ≤ q
  bel : Below w.heap.size w wB
theorem Fx.on {w wB w' : World} {p q : Nat} {m : Mx.M} {a : Ma} {cs : Array Value} (h : Fx w wB p q m a cs) (hb : Below wB.heap.size wB w') : Fx w w' p q m a cs := ⟨h.mat.on hb, h.fra.on hb, h.ne, h.bel.trans (hb.mono h.bel.size)⟩
theorem Fx.by {w wB w' : World} {p q : Nat} {m : Mx.M} {a : Ma} {cs : Array Value} {s : Option Addr} {c n : Nat} {l : List UInt8} (h : Fx w wB p q m a cs) (hO : By w.heap.size wB s c n l) (hk : Kept (Sg.At_ s c) wB w') : Fx w w' p q m a cs := ⟨hO.row hk h.mat (by decide), hO.row hk h.fra (by decide), h.ne, h.bel.trans (hO.below hk h.bel.size)⟩
theorem finfo21 : (Tryd.prog.info? 30).map (·.size) = some 4 := by kernel_rfl
theorem Fx.store {w wB : World} {p q : Nat} {m : Mx.M} {a : Ma} {cs : Array Value} {ops : Array Oper} {rest : List Oper} {o : Oper} {act : Act} {Q : Exit → Act → World → Prop} (h : Fx w wB p q m a cs) (hz : cs.size = 4) (hgd : o.guard = none) (x y : Operand) (ho : o.op = .store 30 x y) (b1 b2 : Bool) (n : Int) (d : ByteArray)
    (hx : act.eval x = .pointer (some ⟨q, 0, none⟩)) (hy : act.eval y = .agg #[.bool b1, .int .u32 n, .bool b2, .string d])
    (hk : ∀ w', RowT 30 w' q #[.bool b1, .int .u32 n, .bool b2, .string d] → Below w.heap.size w w' → wpList Tryd.prog ops Q rest (act.put o.dst undef) w') : wpList Tryd.prog ops Q (o :: rest) act wB :=
  Lw.wpList_store_rowB hgd 30 x y ho q _ hx hy 30 cs h.fra finfo21 hz (by simp [Value.oneCell']) w.heap.size w h.bel h.ne (fun w' hr _ _ hb => hk w' hr hb)
theorem conv_u8 (x : Int) : IntKind.u8.wrap x = ((Pq.u8 x).toNat : Int) := by rw [Pq.u8_mod, IntKind.wrap_u8]
set_option maxRecDepth 100000 in
set_option maxHeartbeats 4000000 in
theorem rbuild_any (w : World) (m : Mx.M) (a : Ma) (rank cycle : Int) (g : Nat) (d : Bool) (hm : MIn w m a) (hg : g < 65536) : Calls Tryd.prog 10 #[mV m a, .int .i64 rank, .int .i64 cycle, .int .u16 (g : Int), .bool d] w fun e w' => e = .returned (bV (Q21.build m rank cycle g d)) ∧ Below w.heap.size w w' := by
  have HF : Hid (Fx w ((w.alloc (.cells (mCs m a) 27)).alloc (.cells #[.bool false, .int .u32 0, .bool false, .string ⟨#[]⟩] 30)) w.heap.size (w.heap.size + 1) m a #[.bool false, .int .u32 0, .bool false, .string ⟨#[]⟩]) := by
    have h1 : RowT 27 (w.alloc (.cells (mCs m a) 27)) w.heap.size (mCs m a) := RowT.new _ _ _
    have hb1 : Below w.heap.size w (w.alloc (.cells (mCs m a) 27)) := (Below.refl _ _).alloc (Nat.le_refl _) _
    have hb2 : Below (w.alloc (.cells (mCs m a) 27)).heap.size (w.alloc (.cells (mCs m a) 27)) ((w.alloc (.cells (mCs m a) 27)).alloc (.cells #[.bool false, .int .u32 0, .bool false, .string ⟨#[]⟩] 30)) := (Below.refl _ _).alloc (Nat.le_refl _) _
    have h2 : RowT 30 ((w.alloc (.cells (mCs m a) 27)).alloc (.cells #[.bool false, .int .u32 0, .bool false, .string ⟨#[]⟩] 30)) (w.alloc (.cells (mCs m a) 27)).heap.size #[.bool false, .int .u32 0, .bool false, .string ⟨#[]⟩] := RowT.new _ _ _
    rw [World.size_alloc] at h2
    exact ⟨h1.on hb2, h2, by omega, hb1.trans (hb2.mono hb1.size)⟩
  have HI : Hid (∀ w', Below w.heap.size w w' → Calls Tryd.prog 20 #[.agg (mCs m a)] w' fun e w'' => e = .returned (.bool (Mx.is m)) ∧ Below w'.heap.size w' w'') := fun w' hb => ris_all w' m a (hm.on hb)
  have HMC : Hid (∀ wB p, RowT 27 wB p (mCs m a) → wB.cell? ⟨p, 0, none⟩ = some (.int .i64 m.level) ∧ wB.cell? ⟨p, 2, none⟩ = some (.int .i64 m.cycles) ∧ wB.cell? ⟨p, 7, none⟩ = some (.int .u32 (m.ref : Int)) ∧ wB.cell? ⟨p, 8, none⟩ = some (.slice a.s1 m.masters.length a.c1)) := fun wB p h => ⟨h.mat.1, h.mat.2.2.1, h.mat.2.2.2.2.2.2.2.1, h.mat.2.2.2.2.2.2.2.2.1⟩
  have HR : Hid (∀ wB p, RowT 27 wB p (mCs m a) → wB.heap[p]? = some (.cells (mCs m a) 27)) := fun wB p h => h
  show Calls _ _ #[.agg (mCs m a), _, _, _, _] _ _
  have hMs : (mCs m a).size = 11 := rfl
  obtain ⟨y0, y1, y2, y3, y4, y5, y6, y7, y8, y9, y10⟩ := HF.out.mat.mat
  clear hm HR
  go_enter Tryd.func10, Tryd.ntmps10
  go_upto_region 1 with fail
  generalize ((w.alloc (.cells (mCs m a) 27)).alloc (.cells #[.bool false, .int .u32 0, .bool false, .string ⟨#[]⟩] 30)) = v at HF y0 y1 y2 y3 y4 y5 y6 y7 y8 y9 y10 ⊢
  go_cut [37] from 14 to 37 (fun v37 wx => v37 = .bool (!Q21.fits m rank cycle) ∧ Hid (Fx w wx w.heap.size (w.heap.size + 1) m a #[.bool false, .int .u32 0, .bool false, .string ⟨#[]⟩]))
  case first =>
    go_wp2_with fail
    refine (HI.out _ HF.out.bel).mono ?_
    rintro e w3 ⟨rfl, hb⟩
    have HF3 : Hid (Fx w w3 w.heap.size (w.heap.size + 1) m a #[.bool false, .int .u32 0, .bool false, .string ⟨#[]⟩]) := HF.out.on hb
    clear hb HF HI y0 y1 y2 y3 y4 y5 y6 y7 y8 y9 y10
    obtain ⟨y0, y2, y7, y8⟩ := HMC.out _ _ HF3.out.mat
    cases hi : Mx.is m
    · have HV : Hid (Q21.fits m rank cycle = false) := by simp [Q21.fits, hi, Hid]
      clear hi
      go_wp2_with fail
      go_meet
      case rel => exact ⟨by rw [HV.out]; first | rfl | (simp; omega), HF3⟩
    · by_cases c1 : rank < 0
      · have HV : Hid (Q21.fits m rank cycle = false) := by simp [Q21.fits, Hid]; intros; omega
        clear hi
        go_wp2_with fail
        go_meet
        case rel => exact ⟨by rw [HV.out]; first | rfl | (simp; omega), HF3⟩
      · by_cases c2 : rank < (m.masters.length : Int)
        · by_cases c3 : cycle < 0
          · have HV : Hid (Q21.fits m rank cycle = false) := by simp [Q21.fits, Hid]; intros; omega
            clear hi
            have c2' : ¬ ((m.masters.length : Int) ≤ rank) := by omega
            go_wp2_with fail
            go_meet
            case rel => exact ⟨by rw [HV.out]; first | rfl | (simp; omega), HF3⟩
          · by_cases c4 : cycle < m.cycles
            · have HV : Hid (Q21.fits m rank cycle = true) := by
                show Q21.fits m rank cycle = true
                simp only [Q21.fits, hi, Bool.true_and, Bool.and_eq_true, decide_eq_true_eq]
                omega
              clear hi
              have c2' : ¬ ((m.masters.length : Int) ≤ rank) := by omega
              have c4' : ¬ (m.cycles ≤ cycle) := by omega
              go_wp2_with fail
              go_meet
              case rel => exact ⟨by rw [HV.out]; first | rfl | (simp; omega), HF3⟩
            · have HV : Hid (Q21.fits m rank cycle = false) := by simp [Q21.fits, Hid]; intros; omega
              clear hi
              have c2' : ¬ ((m.masters.length : Int) ≤ rank) := by omega
              have c4' : m.cycles ≤ cycle := by omega
              go_wp2_with fail
              go_meet
              case rel => exact ⟨by rw [HV.out]; first | rfl | (simp; omega), HF3⟩
        · have HV : Hid (Q21.fits m rank cycle = false) := by simp [Q21.fits, Hid]; intros; omega
          clear hi
          have c2' : (m.masters.length : Int) ≤ rank := by omega
          go_wp2_with fail
          go_meet
          case rel => exact ⟨by rw [HV.out]; first | rfl | (simp; omega), HF3⟩
  case rest =>
    clear HF HI y0 y1 y2 y3 y4 y5 y6 y7 y8 y9 y10
    obtain ⟨rfl, HF⟩ := hcut
    cases hf : Q21.fits m rank cycle
    · have HV : Hid (Q21.build m rank cycle g d = none) := by show Q21.build m rank cycle g d = none; unfold Q21.build; rw [hf]; rfl
      clear hf
      go_upto_region 2 with fail
      go_wp2_with (refine Fx.store HF.out rfl rfl (.tmp 10) (.tmp 38) rfl false false 0 ⟨#[]⟩ rfl rfl ?_; intro w4 hr hb4; have HRr : Hid (RowT 30 w4 (w.heap.size + 1) #[.bool false, .int .u32 0, .bool false, .string ⟨#[]⟩]) := hr; have HB4 : Hid (Below w.heap.size w w4) := hb4; clear hr hb4)
      have q0 := HRr.out.c 0 _ rfl
      have q1 := HRr.out.c 1 _ rfl
      have q2 := HRr.out.c 2 _ rfl
      have q3 := HRr.out.c 3 _ rfl
      exact bodyPost_ret (v := bV none) (by simp [results, Tryd.results10, go_sem, bV, q0, q1, q2, q3]; rfl) rfl ⟨by rw [HV.out], HB4.out⟩
    · obtain ⟨_, r0, r4, rm, k0, kc, k8, hr2⟩ := Q21.fits_lt hf
      obtain ⟨k, hk⟩ : ∃ k : Nat, rank = (k : Int) := Int.eq_ofNat_of_zero_le r0
      have HV : Hid (Q21.build m rank cycle g d = some (m.ref + k, ⟨(Q21.data m cycle g d).toArray⟩)) := by show Q21.build m rank cycle g d = _; unfold Q21.build; rw [hf, hk]; rfl
      subst hk
      clear hf r0 rm
      have e1 := conv_u8 cycle
      have HD : Hid (Q21.data m cycle g d = if m.level = 2 then [Pq.u8 cycle, (if d then 1 else 0), Pq.u8 ((g : Int) / 256), Pq.u8 (g : Int)] else [Pq.u8 cycle]) := rfl
      generalize Q21.data m cycle g d = dat at HD HV
      generalize Pq.u8 cycle = p1 at e1 HD
      have HFo : Hid (∀ o, Fx w (wc.alloc o) w.heap.size (w.heap.size + 1) m a #[.bool false, .int .u32 0, .bool false, .string ⟨#[]⟩]) := fun o => HF.out.on ((Below.refl _ _).alloc (Nat.le_refl _) _)
      have HBy : Hid (By w.heap.size (wc.alloc (.cells #[.int .u8 (p1.toNat : Int)] 5)) (some ⟨wc.heap.size, 0, none⟩) 1 1 [p1]) := By.new w.heap.size wc [p1] 1 rfl HF.out.bel.size (by decide)
      go_upto_region 4 with fail
      replace HF : Hid (Fx w (wc.alloc (.cells #[.int .u8 (p1.toNat : Int)] 5)) w.heap.size (w.heap.size + 1) m a #[.bool false, .int .u32 0, .bool false, .string ⟨#[]⟩]) := HFo.out _
      clear HFo e1
      generalize wc.alloc (.cells #[.int .u8 (p1.toNat : Int)] 5) = v2 at HF HBy ⊢
      generalize wc.heap.size = gb at HBy ⊢
      obtain ⟨y0, y2, y7, y8⟩ := HMC.out _ _ HF.out.mat
      clear y2 y7 y8
      go_upto_if 44 with fail
      clear y0
      go_cut [12, 13] from 42 to 54 (fun v12 _v13 wx => ∃ (s : Option Addr) (c n : Nat), v12 = .slice s n c ∧ Hid (By w.heap.size wx s c n dat) ∧ Hid (Fx w wx w.heap.size (w.heap.size + 1) m a #[.bool false, .int .u32 0, .bool false, .string ⟨#[]⟩]))
      case first =>
        by_cases hl : m.level = 2
        · have e2 := conv_u8 ((g : Int) / 256)
          have e3 := conv_u8 (g : Int)
          generalize Pq.u8 ((g : Int) / 256) = p2 at e2 HD
          generalize Pq.u8 (g : Int) = p3 at e3 HD
          have HByo : Hid (∀ o, By w.heap.size (v2.alloc o) (some ⟨gb, 0, none⟩) 1 1 [p1]) := fun o => HBy.out.on ((Below.refl _ _).alloc (Nat.le_refl _) _)
          have HFo2 : Hid (∀ o, Fx w (v2.alloc o) w.heap.size (w.heap.size + 1) m a #[.bool false, .int .u32 0, .bool false, .string ⟨#[]⟩]) := fun o => HF.out.on ((Below.refl _ _).alloc (Nat.le_refl _) _)
          clear HF HBy HMC
          cases d
          · have HDd : Hid (dat = [p1] ++ [0, p2, p3]) := by show dat = _; rw [HD.out, if_pos hl]; rfl
            have HS : Hid (Src Tryd.prog 1 51 (.slice (some ⟨v2.heap.size, 0, none⟩) 3 3) 3 [.int .u8 0, .int .u8 (p2.toNat : Int), .int .u8 (p3.toNat : Int)] (v2.alloc (.cells #[.int .u8 0, .int .u8 (p2.toNat : Int), .int .u8 (p3.toNat : Int)] 5))) := Sg.src_new (P := Tryd.prog) Tryd.underlying51 v2 5 1 3 [.int .u8 0, .int .u8 (p2.toNat : Int), .int .u8 (p3.toNat : Int)] rfl (fun u hu => by simp at hu; rcases hu with rfl | rfl | rfl <;> rfl)
            clear HD
            go_wp2_with (refine Sg.wpList_appendO elU8 rfl (.tmp 46) (.tmp 53) 51 rfl rfl rfl (HByo.out _) (HFo2.out _).bel.size HS.out (by omega) ?_; intro s' c' n' w' hn h1 hk; clear hn; have HA : Hid (By w.heap.size w' s' c' n' ([p1] ++ [0, p2, p3])) := By.app (r := [0, p2, p3]) h1; have HFa : Hid (Fx w w' w.heap.size (w.heap.size + 1) m a #[.bool false, .int .u32 0, .bool false, .string ⟨#[]⟩]) := (HFo2.out _).by (HByo.out _) hk; clear h1 hk)
            go_meet
            case rel => exact ⟨s', c', n', rfl, by rw [HDd.out]; exact HA, HFa⟩
          · have HDd : Hid (dat = [p1] ++ [1, p2, p3]) := by show dat = _; rw [HD.out, if_pos hl]; rfl
            have HS : Hid (Src Tryd.prog 1 51 (.slice (some ⟨v2.heap.size, 0, none⟩) 3 3) 3 [.int .u8 1, .int .u8 (p2.toNat : Int), .int .u8 (p3.toNat : Int)] (v2.alloc (.cells #[.int .u8 1, .int .u8 (p2.toNat : Int), .int .u8 (p3.toNat : Int)] 5))) := Sg.src_new (P := Tryd.prog) Tryd.underlying51 v2 5 1 3 [.int .u8 1, .int .u8 (p2.toNat : Int), .int .u8 (p3.toNat : Int)] rfl (fun u hu => by simp at hu; rcases hu with rfl | rfl | rfl <;> rfl)
            clear HD
            go_wp2_with (refine Sg.wpList_appendO elU8 rfl (.tmp 46) (.tmp 53) 51 rfl rfl rfl (HByo.out _) (HFo2.out _).bel.size HS.out (by omega) ?_; intro s' c' n' w' hn h1 hk; clear hn; have HA : Hid (By w.heap.size w' s' c' n' ([p1] ++ [1, p2, p3])) := By.app (r := [1, p2, p3]) h1; have HFa : Hid (Fx w w' w.heap.size (w.heap.size + 1) m a #[.bool false, .int .u32 0, .bool false, .string ⟨#[]⟩]) := (HFo2.out _).by (HByo.out _) hk; clear h1 hk)
            go_meet
            case rel => exact ⟨s', c', n', rfl, by rw [HDd.out]; exact HA, HFa⟩
        · have HDd : Hid (dat = [p1]) := by show dat = _; rw [HD.out, if_neg hl]
          clear HD HMC
          go_wp2_with fail
          go_meet
          case rel => exact ⟨_, _, _, rfl, by rw [HDd.out]; exact HBy, HF⟩
      case rest =>
        clear HF HBy HD
        obtain ⟨s1, c1, n1, rfl, HBy, HF⟩ := hcut
        obtain ⟨y0, y2, y7, y8⟩ := HMC.out _ _ HF.out.mat
        have hcv := HBy.out.conv
        obtain ⟨N, hN⟩ : ∃ N : Nat, m.ref + k = N := ⟨_, rfl⟩
        have hsum : (m.ref : Int) + (k : Int) = (N : Int) := by omega
        have hNb : (N : Int) < 4294967296 := by omega
        have hk4 : (k : Int) < 4 := r4
        rw [hN] at HV
        clear hN HMC
        go_wp2_with (refine Fx.store HF.out rfl rfl (.tmp 10) (.tmp 62) rfl false false (N : Int) ⟨dat.toArray⟩ rfl rfl ?_; intro w4 hr hb4; have HRr : Hid (RowT 30 w4 (w.heap.size + 1) #[.bool false, .int .u32 (N : Int), .bool false, .string ⟨dat.toArray⟩]) := hr; have HB4 : Hid (Below w.heap.size w w4) := hb4; clear hr hb4)
        have q0 := HRr.out.c 0 _ rfl
        have q1 := HRr.out.c 1 _ rfl
        have q2 := HRr.out.c 2 _ rfl
        have q3 := HRr.out.c 3 _ rfl
        exact bodyPost_ret (v := bV (some (N, ⟨dat.toArray⟩))) (by simp [results, Tryd.results10, go_sem, bV, q0, q1, q2, q3]) rfl ⟨by rw [HV.out], HB4.out⟩
end Go.Proofs.YtoinkaakiohclaaDoor
