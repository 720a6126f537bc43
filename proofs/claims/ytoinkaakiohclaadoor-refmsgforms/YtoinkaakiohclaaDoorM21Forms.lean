/- RefmsgForms: of every data of at most eight bytes (longer ones are let by) and rank, with one byte and four: frames of a beat's identifier with other bytes, too many, too few, are none; no condition. -/
import Derived.Test.YtoinkaakiohclaaDoorW21
import Derived.Test.YtoinkaakiohclaaDoorV21
import Derived.Deep.CutBlock
import Derived.ProofKit
import Derived.OpenShut
namespace Go.Proofs.YtoinkaakiohclaaDoor.refmsgForms
open Go.ChangeShapes Go.WideShapes Go.ChangeAt Go.RowKit
set_option linter.unusedVariables false
variable {Q : World → Prop}
theorem isM {m : Mx.M} (hm : m = Mx.l21 ∨ m = Mx.l21b) : Mx.is m = true := by rcases hm with rfl | rfl <;> decide
theorem form {m : Mx.M} {n : Nat} (hm : (m = Mx.l21 ∧ n = 4) ∨ (m = Mx.l21b ∧ n = 1)) {k : Nat} (hk : k < 8) {d : ByteArray} (h8 : d.size ≤ 8) : ∃ (r1 c1 g1 : Int) (e1 : Bool), btV (Q21.parse m false (16 + k) false d) = .tuple #[.agg #[.int .i64 r1, .int .i64 c1, .int .u16 g1, .bool e1], .bool (Q21.fine k n d)] ∧ (Q21.fine k n d = true → r1 = (k : Int) ∧ c1 = (Q21.byte d 0 : Int)) := by
  have h : Q21.parse m false (16 + k) false d = if Q21.fine k n d then some (Q21.told m (16 + k) d) else none := by
    rcases hm with ⟨rfl, rfl⟩ | ⟨rfl, rfl⟩
    · exact Q21.forms2 hk h8
    · exact Q21.forms1 hk h8
  have ht := Q21.told21 (hm.elim (fun h => Or.inl h.1) (fun h => Or.inr h.1)) k d
  rw [h]
  cases Q21.fine k n d
  · exact ⟨0, 0, 0, false, rfl, fun h => by cases h⟩
  · exact ⟨_, _, _, _, rfl, fun _ => ht⟩
set_option maxRecDepth 100000 in
set_option maxHeartbeats 8000000 in
theorem walkA (hQ : ∀ w w', Q w → Below w.heap.size w w' → Q w') (S : RefSpec Q) (d : ByteArray) (rho : Nat) (hr : rho < 256) (two : Bool) (W : World) (hW : Q W) : Calls Tryd.prog 6 #[.string d, .int .u8 (rho : Int), .bool two] W fun e w' => e = .returned (.bool true) ∧ Below W.heap.size W w' := by
  have HQ : Hid (∀ w, Below W.heap.size W w → Q w) := fun w hb => hQ W w hW hb
  have HPa : Hid (∀ (m : Mx.M), (m = Mx.l21 ∨ m = Mx.l21b) → ∀ (w : World) (p : Nat) (a : Ma) (x : Bool) (n : Nat) (r : Bool) (d : ByteArray), Bx W w p m a → n < 4294967296 → d.size ≤ 8 → Calls Tryd.prog 11 #[mV m a, .agg #[.bool x, .int .u32 (n : Int), .bool r, .string d]] w fun e w' => e = .returned (btV (Q21.parse m x n r d)) ∧ Below w.heap.size w w') := fun m hm w p a x n r d h hn hd => S.parse w m a x n r d (HQ.out _ h.below) h.mem (Mx.small_is (isM hm)) (Mx.wf_is (isM hm)) hn (by omega)
  go_enter Tryd.func6, Tryd.ntmps6
  go_wp2_with fail
  refine (known21_any hQ S W hW).mono ?_
  rintro e w0 ⟨rfl, hb⟩
  have HB : Hid (Below W.heap.size W w0) := hb
  clear hb hW hQ HQ
  by_cases h8 : 8 < d.size
  · have h8i : (8 : Int) < (d.size : Int) := by omega
    clear HPa h8
    go_wp2
    go_ret
    exact ⟨rfl, HB.out⟩
  have h8i : ¬ ((8 : Int) < (d.size : Int)) := by omega
  have H8 : Hid (d.size ≤ 8) := (by omega : d.size ≤ 8)
  clear h8
  go_wp2_with fail
  refine (least21_any w0).mono ?_
  rintro e w1 ⟨a, rfl, hO, hb⟩
  have HBw : Hid (Below W.heap.size W w1) := HB.out.trans (hb.mono HB.out.size)
  have HO : Hid (MIn w1 Mx.l21 a) := hO
  have HX : Hid (Bx W (w1.alloc (.cells #[.int .i64 Mx.l21.level, .int .i64 Mx.l21.nodes, .int .i64 Mx.l21.cycles, .int .i64 Mx.l21.length, .int .i64 Mx.l21.enable, .int .i64 Mx.l21.unit, .int .i64 Mx.l21.init, .int .u32 (Mx.l21.ref : Int), .slice a.s1 Mx.l21.masters.length a.c1, .slice a.s2 Mx.l21.messages.length a.c2, .slice a.s3 Mx.l21.windows.length a.c3] 27)) w1.heap.size Mx.l21 a) := Bx.make HBw.out hO
  have HXs : Hid (Bx W ((w1.alloc (.cells #[.int .i64 Mx.l21.level, .int .i64 Mx.l21.nodes, .int .i64 Mx.l21.cycles, .int .i64 Mx.l21.length, .int .i64 Mx.l21.enable, .int .i64 Mx.l21.unit, .int .i64 Mx.l21.init, .int .u32 (Mx.l21.ref : Int), .slice a.s1 Mx.l21.masters.length a.c1, .slice a.s2 Mx.l21.messages.length a.c2, .slice a.s3 Mx.l21.windows.length a.c3] 27)).setCell ⟨w1.heap.size, 0, none⟩ (.int .i64 1)) w1.heap.size Mx.l21b a) := by
    have hbs : Below w1.heap.size w1 ((w1.alloc (.cells #[.int .i64 Mx.l21.level, .int .i64 Mx.l21.nodes, .int .i64 Mx.l21.cycles, .int .i64 Mx.l21.length, .int .i64 Mx.l21.enable, .int .i64 Mx.l21.unit, .int .i64 Mx.l21.init, .int .u32 (Mx.l21.ref : Int), .slice a.s1 Mx.l21.masters.length a.c1, .slice a.s2 Mx.l21.messages.length a.c2, .slice a.s3 Mx.l21.windows.length a.c3] 27)).setCell ⟨w1.heap.size, 0, none⟩ (.int .i64 1)) := ((Below.refl _ _).alloc (Nat.le_refl _) _).setCell (Nat.le_refl _) _
    exact ⟨HX.out.row.set 0 (.int .i64 1), (show MIn w1 Mx.l21b a from by obtain ⟨q1, q2, q3⟩ := HO.out; exact ⟨q1, q2, q3⟩).on hbs, HBw.out.trans (hbs.mono HBw.out.size)⟩
  clear hO hb HO HBw HB
  dsimp only [mV, mCs]
  go_upto_region 6 with fail
  clear h8i
  have y0 := HX.out.row.c 0 _ rfl
  have f0 := HX.out.row.f 0
  generalize w1.alloc (.cells #[.int .i64 Mx.l21.level, .int .i64 Mx.l21.nodes, .int .i64 Mx.l21.cycles, .int .i64 Mx.l21.length, .int .i64 Mx.l21.enable, .int .i64 Mx.l21.unit, .int .i64 Mx.l21.init, .int .u32 (Mx.l21.ref : Int), .slice a.s1 Mx.l21.masters.length a.c1, .slice a.s2 Mx.l21.messages.length a.c2, .slice a.s3 Mx.l21.windows.length a.c3] 27) = v1 at HX HXs y0 f0 ⊢
  generalize w1.heap.size = p at HX HXs y0 f0 ⊢
  go_upto_if 26 with fail
  go_cut [8] from 25 to 27 (fun v8 wx => ∃ (m : Mx.M) (n : Nat), Hid ((m = Mx.l21 ∧ n = 4) ∨ (m = Mx.l21b ∧ n = 1)) ∧ v8 = .int .i64 (n : Int) ∧ Hid (Bx W wx p m a))
  case first =>
    clear HPa
    cases two
    · go_wp2_with fail
      go_meet
      case rel => exact ⟨Mx.l21b, 1, Or.inr ⟨rfl, rfl⟩, rfl, HXs⟩
    · go_wp2_with fail
      go_meet
      case rel => exact ⟨Mx.l21, 4, Or.inl ⟨rfl, rfl⟩, rfl, HX⟩
  case rest =>
    clear HX HXs y0 f0
    obtain ⟨m, n, Hm, rfl, HX⟩ := hcut
    have Hmm : Hid (m = Mx.l21 ∨ m = Mx.l21b) := Hm.out.elim (fun h => Or.inl h.1) (fun h => Or.inr h.1)
    replace HPa := HPa.out m Hmm.out
    have hrf : m.ref = 16 := by rcases Hmm.out with rfl | rfl <;> rfl
    obtain ⟨k, hk⟩ : ∃ k, rho % 8 = k := ⟨_, rfl⟩
    have hk8 : k < 8 := by omega
    have er : (rho : Int) % 8 = (k : Int) := by omega
    have tr : (rho : Int).tmod 8 = (k : Int) := by rw [Int.tmod_eq_emod_of_nonneg (by omega)]; exact er
    obtain ⟨N, hN⟩ : ∃ N, 16 + k = N := ⟨_, rfl⟩
    obtain ⟨r1, c1, g1, e1, hbt, hft⟩ := form Hm.out hk8 H8.out
    have HP1 : Hid (∀ w, Bx W w p m a → Calls Tryd.prog 11 #[mV m a, .agg #[.bool false, .int .u32 (N : Int), .bool false, .string d]] w fun e w' => e = .returned (.tuple #[.agg #[.int .i64 r1, .int .i64 c1, .int .u16 g1, .bool e1], .bool (Q21.fine k n d)]) ∧ Below w.heap.size w w') := fun w h => by have := HPa w p a false N false d h (by omega) H8.out; rw [← hN, hbt] at this; rw [← hN]; exact this
    have HP2 : Hid (∀ w, Bx W w p m a → Calls Tryd.prog 11 #[mV m a, .agg #[.bool false, .int .u32 (N : Int), .bool true, .string ⟨#[]⟩]] w fun e w' => e = .returned (.tuple #[.agg #[.int .i64 0, .int .i64 0, .int .u16 0, .bool false], .bool false]) ∧ Below w.heap.size w w') := fun w h => by have := HPa w p a false N true ⟨#[]⟩ h (by omega) (by decide); rw [Q21.rtr] at this; exact this
    have HP3 : Hid (∀ w, Bx W w p m a → Calls Tryd.prog 11 #[mV m a, .agg #[.bool true, .int .u32 (N : Int), .bool false, .string d]] w fun e w' => e = .returned (.tuple #[.agg #[.int .i64 0, .int .i64 0, .int .u16 0, .bool false], .bool false]) ∧ Below w.heap.size w w') := fun w h => by have := HPa w p a true N false d h (by omega) H8.out; rw [Q21.ext] at this; exact this
    have HFt : Hid (Q21.fine k n d = true → r1 = (k : Int) ∧ c1 = (Q21.byte d 0 : Int)) := hft
    have hN1 : (16 : Int) + (k : Int) = (N : Int) := by omega
    have hkb : (k : Int) < 8 := by omega
    have hNb : (N : Int) < 24 := by omega
    clear hN hk hbt hft HPa
    obtain ⟨y0, y1, y2, y3, y4, y5, y6, y7, y8, y9, y10⟩ := HX.out.row.mat
    rw [hrf] at y7
    have y7 : wc.cell? ⟨p, 7, none⟩ = some (.int .u32 16) := y7
    clear hrf
    go_upto_region 9 with fail
    go_upto_region 10 with fail
    replace HX : Hid (Bx W (wc.alloc (.cells #[.bool false, .int .u32 (N : Int), .bool false, .string d] 30)) p m a) := HX.out.al _
    have HR0 : Hid (RowT 30 (wc.alloc (.cells #[.bool false, .int .u32 (N : Int), .bool false, .string d] 30)) wc.heap.size #[.bool false, .int .u32 (N : Int), .bool false, .string d]) := RowT.new _ _ _
    clear y0 y1 y2 y3 y4 y5 y6 y7 y8 y9 y10
    generalize wc.alloc (.cells #[.bool false, .int .u32 (N : Int), .bool false, .string d] 30) = v2 at HX HR0 ⊢
    generalize wc.heap.size = g9 at HR0 ⊢
    obtain ⟨y0, y1, y2, y3, y4, y5, y6, y7, y8, y9, y10⟩ := HX.out.row.mat
    have z0 := HR0.out.c 0 _ rfl
    have z1 := HR0.out.c 1 _ rfl
    have z2 := HR0.out.c 2 _ rfl
    have z3 := HR0.out.c 3 _ rfl
    go_wp2_with fail
    refine (HP1.out _ HX.out).mono ?_
    rintro e w3 ⟨rfl, hb⟩
    clear y0 y1 y2 y3 y4 y5 y6 y7 y8 y9 y10 z0 z1 z2 z3 HP1
    generalize hfn : Q21.fine k n d = fn at HFt ⊢
    have HFn : Hid (Q21.fine k n d = fn) := hfn
    clear hfn
    replace HX : Hid (Bx W (w3.alloc (.cells #[.int .i64 r1, .int .i64 c1, .int .u16 g1, .bool e1] 36)) p m a) := (HX.out.on hb).al _
    replace HR0 : Hid (RowT 30 (w3.alloc (.cells #[.int .i64 r1, .int .i64 c1, .int .u16 g1, .bool e1] 36)) g9 #[.bool false, .int .u32 (N : Int), .bool false, .string d]) := (RowT.on HR0.out hb).on ((Below.refl _ _).alloc (Nat.le_refl _) _)
    have HRb : Hid (RowT 36 (w3.alloc (.cells #[.int .i64 r1, .int .i64 c1, .int .u16 g1, .bool e1] 36)) w3.heap.size #[.int .i64 r1, .int .i64 c1, .int .u16 g1, .bool e1]) := RowT.new _ _ _
    clear hb
    go_upto_region 11 with fail
    generalize w3.alloc (.cells #[.int .i64 r1, .int .i64 c1, .int .u16 g1, .bool e1] 36) = v3 at HX HR0 HRb ⊢
    generalize w3.heap.size = g10 at HRb ⊢
    go_cut [12] from 19 to 64 (fun v12 wx => v12 = .bool fn ∧ wx = v3)
    case first =>
      clear HP2 HP3 hN1 hNb
      rcases Hm.out with ⟨-, hn4⟩ | ⟨-, hn1⟩
      · subst hn4
        by_cases q1 : k < 2
        · have q1i : (k : Int) < 2 := by omega
          by_cases q2 : d.size = 4
          · have q2i : (d.size : Int) = 4 := by omega
            have h0 : 0 < d.size := by omega
            obtain ⟨b0, hb0⟩ : ∃ b : Nat, (d[0]'h0).toNat = b := ⟨_, rfl⟩
            have hy0 : Q21.byte d 0 = b0 := by rw [byte_eq d 0 h0, hb0]
            by_cases q3 : b0 < 2
            · have q3i : (b0 : Int) < 2 := by omega
              have h1 : 1 < d.size := by omega
              obtain ⟨b1, hb1⟩ : ∃ b : Nat, (d[1]'h1).toNat = b := ⟨_, rfl⟩
              have hy1 : Q21.byte d 1 = b1 := by rw [byte_eq d 1 h1, hb1]
              by_cases q4 : b1 < 2
              · have q4i : (b1 : Int) < 2 := by omega
                have HV : Hid (fn = true) := by show fn = true; rw [← HFn.out]; simp [Q21.fine, q1, q2, q3, q4, hy0, hy1]
                clear HFn Hm q1 q2 q3 q4 hy0 hy1
                go_wp2_with fail
                go_meet
                case rel => exact ⟨by rw [HV.out], rfl⟩
              · have q4i : ¬ ((b1 : Int) < 2) := by omega
                have HV : Hid (fn = false) := by show fn = false; rw [← HFn.out]; simp [Q21.fine, q1, q2, q3, q4, hy0, hy1]
                clear HFn Hm q1 q2 q3 q4 hy0 hy1
                go_wp2_with fail
                go_meet
                case rel => exact ⟨by rw [HV.out], rfl⟩
            · have q3i : ¬ ((b0 : Int) < 2) := by omega
              have HV : Hid (fn = false) := by show fn = false; rw [← HFn.out]; simp [Q21.fine, q1, q2, q3, hy0]
              clear HFn Hm q1 q2 q3 hy0
              go_wp2_with fail
              go_meet
              case rel => exact ⟨by rw [HV.out], rfl⟩
          · have q2i : ¬ ((d.size : Int) = 4) := by omega
            have HV : Hid (fn = false) := by show fn = false; rw [← HFn.out]; simp [Q21.fine, q1, q2]
            clear HFn Hm q1 q2
            go_wp2_with fail
            go_meet
            case rel => exact ⟨by rw [HV.out], rfl⟩
        · have q1i : ¬ ((k : Int) < 2) := by omega
          have HV : Hid (fn = false) := by show fn = false; rw [← HFn.out]; simp [Q21.fine, q1]
          clear HFn Hm q1
          go_wp2_with fail
          go_meet
          case rel => exact ⟨by rw [HV.out], rfl⟩
      · subst hn1
        by_cases q1 : k < 2
        · have q1i : (k : Int) < 2 := by omega
          by_cases q2 : d.size = 1
          · have q2i : (d.size : Int) = 1 := by omega
            have h0 : 0 < d.size := by omega
            obtain ⟨b0, hb0⟩ : ∃ b : Nat, (d[0]'h0).toNat = b := ⟨_, rfl⟩
            have hy0 : Q21.byte d 0 = b0 := by rw [byte_eq d 0 h0, hb0]
            by_cases q3 : b0 < 2
            · have q3i : (b0 : Int) < 2 := by omega
              have HV : Hid (fn = true) := by show fn = true; rw [← HFn.out]; simp [Q21.fine, q1, q2, q3, hy0]
              clear HFn Hm q1 q2 q3 hy0
              go_wp2_with fail
              go_meet
              case rel => exact ⟨by rw [HV.out], rfl⟩
            · have q3i : ¬ ((b0 : Int) < 2) := by omega
              have HV : Hid (fn = false) := by show fn = false; rw [← HFn.out]; simp [Q21.fine, q1, q2, q3, hy0]
              clear HFn Hm q1 q2 q3 hy0
              go_wp2_with fail
              go_meet
              case rel => exact ⟨by rw [HV.out], rfl⟩
          · have q2i : ¬ ((d.size : Int) = 1) := by omega
            have HV : Hid (fn = false) := by show fn = false; rw [← HFn.out]; simp [Q21.fine, q1, q2]
            clear HFn Hm q1 q2
            go_wp2_with fail
            go_meet
            case rel => exact ⟨by rw [HV.out], rfl⟩
        · have q1i : ¬ ((k : Int) < 2) := by omega
          have HV : Hid (fn = false) := by show fn = false; rw [← HFn.out]; simp [Q21.fine, q1]
          clear HFn Hm q1
          go_wp2_with fail
          go_meet
          case rel => exact ⟨by rw [HV.out], rfl⟩
    case rest =>
      obtain ⟨rfl, hwc⟩ := hcut
      rw [hwc]
      clear hwc
      have z0 := HR0.out.c 0 _ rfl
      have z1 := HR0.out.c 1 _ rfl
      have z2 := HR0.out.c 2 _ rfl
      have z3 := HR0.out.c 3 _ rfl
      go_upto_region 14 with fail
      clear z0 z1 z2 z3
      replace HX : Hid (Bx W (v3.alloc (.cells #[.bool false, .int .u32 (N : Int), .bool true, .string ⟨#[]⟩] 30)) p m a) := (HX.out).al _
      replace HR0 : Hid (RowT 30 (v3.alloc (.cells #[.bool false, .int .u32 (N : Int), .bool true, .string ⟨#[]⟩] 30)) g9 #[.bool false, .int .u32 (N : Int), .bool false, .string d]) := RowT.on HR0.out ((Below.refl _ _).alloc (Nat.le_refl _) _)
      replace HRb : Hid (RowT 36 (v3.alloc (.cells #[.bool false, .int .u32 (N : Int), .bool true, .string ⟨#[]⟩] 30)) g10 #[.int .i64 r1, .int .i64 c1, .int .u16 g1, .bool e1]) := RowT.on HRb.out ((Below.refl _ _).alloc (Nat.le_refl _) _)
      have HRr : Hid (RowT 30 (v3.alloc (.cells #[.bool false, .int .u32 (N : Int), .bool true, .string ⟨#[]⟩] 30)) v3.heap.size #[.bool false, .int .u32 (N : Int), .bool true, .string ⟨#[]⟩]) := RowT.new _ _ _
      generalize v3.alloc (.cells #[.bool false, .int .u32 (N : Int), .bool true, .string ⟨#[]⟩] 30) = v4 at HX HR0 HRb HRr ⊢
      generalize v3.heap.size = g13 at HRr ⊢
      obtain ⟨y0, y1, y2, y3, y4, y5, y6, y7, y8, y9, y10⟩ := HX.out.row.mat
      have z0 := HRr.out.c 0 _ rfl
      have z1 := HRr.out.c 1 _ rfl
      have z2 := HRr.out.c 2 _ rfl
      have z3 := HRr.out.c 3 _ rfl
      go_wp2_with fail
      refine (HP2.out _ HX.out).mono ?_
      rintro e w5 ⟨rfl, hb⟩
      clear y0 y1 y2 y3 y4 y5 y6 y7 y8 y9 y10 z0 z1 z2 z3 HP2 HRr
      replace HX : Hid (Bx W (w5.alloc (.cells #[.int .i64 0, .int .i64 0, .int .u16 0, .bool false] 36)) p m a) := (HX.out.on hb).al _
      replace HR0 : Hid (RowT 30 (w5.alloc (.cells #[.int .i64 0, .int .i64 0, .int .u16 0, .bool false] 36)) g9 #[.bool false, .int .u32 (N : Int), .bool false, .string d]) := (RowT.on HR0.out hb).on ((Below.refl _ _).alloc (Nat.le_refl _) _)
      replace HRb : Hid (RowT 36 (w5.alloc (.cells #[.int .i64 0, .int .i64 0, .int .u16 0, .bool false] 36)) g10 #[.int .i64 r1, .int .i64 c1, .int .u16 g1, .bool e1]) := (RowT.on HRb.out hb).on ((Below.refl _ _).alloc (Nat.le_refl _) _)
      clear hb
      have z0 := HR0.out.c 0 _ rfl
      have z1 := HR0.out.c 1 _ rfl
      have z2 := HR0.out.c 2 _ rfl
      have z3 := HR0.out.c 3 _ rfl
      go_upto_region 15 with fail
      generalize w5.alloc (.cells #[.int .i64 0, .int .i64 0, .int .u16 0, .bool false] 36) = v5 at HX HR0 HRb z0 z1 z2 z3 ⊢
      go_upto_region 17 with fail
      clear z0 z1 z2 z3
      replace HX : Hid (Bx W (v5.alloc (.cells #[.bool true, .int .u32 (N : Int), .bool false, .string d] 30)) p m a) := (HX.out).al _
      replace HR0 : Hid (RowT 30 (v5.alloc (.cells #[.bool true, .int .u32 (N : Int), .bool false, .string d] 30)) g9 #[.bool false, .int .u32 (N : Int), .bool false, .string d]) := RowT.on HR0.out ((Below.refl _ _).alloc (Nat.le_refl _) _)
      replace HRb : Hid (RowT 36 (v5.alloc (.cells #[.bool true, .int .u32 (N : Int), .bool false, .string d] 30)) g10 #[.int .i64 r1, .int .i64 c1, .int .u16 g1, .bool e1]) := RowT.on HRb.out ((Below.refl _ _).alloc (Nat.le_refl _) _)
      have HRr : Hid (RowT 30 (v5.alloc (.cells #[.bool true, .int .u32 (N : Int), .bool false, .string d] 30)) v5.heap.size #[.bool true, .int .u32 (N : Int), .bool false, .string d]) := RowT.new _ _ _
      generalize v5.alloc (.cells #[.bool true, .int .u32 (N : Int), .bool false, .string d] 30) = v6 at HX HR0 HRb HRr ⊢
      generalize v5.heap.size = g16 at HRr ⊢
      obtain ⟨y0, y1, y2, y3, y4, y5, y6, y7, y8, y9, y10⟩ := HX.out.row.mat
      have z0 := HRr.out.c 0 _ rfl
      have z1 := HRr.out.c 1 _ rfl
      have z2 := HRr.out.c 2 _ rfl
      have z3 := HRr.out.c 3 _ rfl
      go_wp2_with fail
      refine (HP3.out _ HX.out).mono ?_
      rintro e w7 ⟨rfl, hb⟩
      clear y0 y1 y2 y3 y4 y5 y6 y7 y8 y9 y10 z0 z1 z2 z3 HP3 HRr
      replace HX : Hid (Bx W (w7.alloc (.cells #[.int .i64 0, .int .i64 0, .int .u16 0, .bool false] 36)) p m a) := (HX.out.on hb).al _
      replace HR0 : Hid (RowT 30 (w7.alloc (.cells #[.int .i64 0, .int .i64 0, .int .u16 0, .bool false] 36)) g9 #[.bool false, .int .u32 (N : Int), .bool false, .string d]) := (RowT.on HR0.out hb).on ((Below.refl _ _).alloc (Nat.le_refl _) _)
      replace HRb : Hid (RowT 36 (w7.alloc (.cells #[.int .i64 0, .int .i64 0, .int .u16 0, .bool false] 36)) g10 #[.int .i64 r1, .int .i64 c1, .int .u16 g1, .bool e1]) := (RowT.on HRb.out hb).on ((Below.refl _ _).alloc (Nat.le_refl _) _)
      clear hb
      have z0 := HR0.out.c 0 _ rfl
      have z1 := HR0.out.c 1 _ rfl
      have z2 := HR0.out.c 2 _ rfl
      have z3 := HR0.out.c 3 _ rfl
      go_upto_region 18 with fail
      generalize w7.alloc (.cells #[.int .i64 0, .int .i64 0, .int .u16 0, .bool false] 36) = v7 at HX HR0 HRb z0 z1 z2 z3 ⊢
      clear z0 z1 z2 z3
      replace HX : Hid (Below W.heap.size W v7.drew) := HX.out.below.trans ((Below.refl _ _).drew.mono HX.out.below.size)
      replace HRb : Hid (RowT 36 v7.drew g10 #[.int .i64 r1, .int .i64 c1, .int .u16 g1, .bool e1]) := HRb.out.on (Below.refl _ _).drew
      cases fn
      · clear HFt HFn
        refine wp_region_held_drew (S := fun w' : World => RowT 36 w' g10 #[.int .i64 r1, .int .i64 c1, .int .u16 g1, .bool e1]) (by kernel_rfl) HRb.out (fun hHeld => ?_)
        refine Hl.takeL (i := 0) (d := 82) (v := ?_) rfl (by kernel_rfl) (by kernel_rfl) (by kernel_rfl) (fun _ _ _ h => h) (by rfl) ?_ (by first | assumption | trivial) ?_
        rotate_left
        · intro w hSw; skip; go_simp; (try with_reducible rfl)
        simp only [Act.put, List.setIfInBounds_toArray, List.set_cons_zero, List.set_cons_succ]
        refine Hl.takeL (i := 1) (d := 83) (v := ?_) rfl (by kernel_rfl) (by kernel_rfl) (by kernel_rfl) (fun _ _ _ h => h) (by rfl) ?_ (by first | assumption | trivial) ?_
        rotate_left
        · intro w hSw; skip; go_simp; (try with_reducible rfl)
        simp only [Act.put, List.setIfInBounds_toArray, List.set_cons_zero, List.set_cons_succ]
        refine Hl.takeL (i := 2) (d := 84) (v := ?_) rfl (by kernel_rfl) (by kernel_rfl) (by kernel_rfl) (fun _ _ _ h => h) (by rfl) ?_ (by first | assumption | trivial) ?_
        rotate_left
        · intro w hSw; skip; go_simp; (try with_reducible rfl)
        simp only [Act.put, List.setIfInBounds_toArray, List.set_cons_zero, List.set_cons_succ]
        refine Hl.takeL (i := 3) (d := 85) (v := ?_) rfl (by kernel_rfl) (by kernel_rfl) (by kernel_rfl) (fun _ _ _ h => h) (by rfl) ?_ (by first | assumption | trivial) ?_
        rotate_left
        · intro w hSw; skip; go_simp; (try with_reducible rfl)
        simp only [Act.put, List.setIfInBounds_toArray, List.set_cons_zero, List.set_cons_succ]
        refine Hl.takeL (i := 4) (d := 86) (v := ?_) rfl (by kernel_rfl) (by kernel_rfl) (by kernel_rfl) (fun _ _ _ h => h) (by rfl) ?_ (by first | assumption | trivial) ?_
        rotate_left
        · intro w hSw; skip; go_simp; (try with_reducible rfl)
        simp only [Act.put, List.setIfInBounds_toArray, List.set_cons_zero, List.set_cons_succ]
        refine Hl.takeL (i := 5) (d := 87) (v := ?_) rfl (by kernel_rfl) (by kernel_rfl) (by kernel_rfl) (fun _ _ _ h => h) (by rfl) ?_ (by first | assumption | trivial) ?_
        rotate_left
        · intro w hSw; skip; go_simp; (try with_reducible rfl)
        simp only [Act.put, List.setIfInBounds_toArray, List.set_cons_zero, List.set_cons_succ]
        refine Hl.takeL (i := 6) (d := 88) (v := ?_) rfl (by kernel_rfl) (by kernel_rfl) (by kernel_rfl) (fun _ _ _ h => h) (by rfl) ?_ (by first | assumption | trivial) ?_
        rotate_left
        · intro w hSw; skip; go_simp; (try with_reducible rfl)
        simp only [Act.put, List.setIfInBounds_toArray, List.set_cons_zero, List.set_cons_succ]
        refine skip21 (i := 7) (d := 89) rfl (by kernel_rfl) (by kernel_rfl) (by kernel_rfl) (fun _ _ _ h => h) (by rfl) (by first | assumption | trivial) ?_
        simp only [Act.put, List.setIfInBounds_toArray, List.set_cons_zero, List.set_cons_succ]
        refine skip21 (i := 8) (d := 90) rfl (by kernel_rfl) (by kernel_rfl) (by kernel_rfl) (fun _ _ _ h => h) (by rfl) (by first | assumption | trivial) ?_
        simp only [Act.put, List.setIfInBounds_toArray, List.set_cons_zero, List.set_cons_succ]
        refine skip21 (i := 9) (d := 91) rfl (by kernel_rfl) (by kernel_rfl) (by kernel_rfl) (fun _ _ _ h => h) (by rfl) (by first | assumption | trivial) ?_
        simp only [Act.put, List.setIfInBounds_toArray, List.set_cons_zero, List.set_cons_succ]
        refine skip21 (i := 10) (d := 92) rfl (by kernel_rfl) (by kernel_rfl) (by kernel_rfl) (fun _ _ _ h => h) (by rfl) (by first | assumption | trivial) ?_
        simp only [Act.put, List.setIfInBounds_toArray, List.set_cons_zero, List.set_cons_succ]
        refine skip21 (i := 11) (d := 93) rfl (by kernel_rfl) (by kernel_rfl) (by kernel_rfl) (fun _ _ _ h => h) (by rfl) (by first | assumption | trivial) ?_
        simp only [Act.put, List.setIfInBounds_toArray, List.set_cons_zero, List.set_cons_succ]
        refine skip21 (i := 12) (d := 94) rfl (by kernel_rfl) (by kernel_rfl) (by kernel_rfl) (fun _ _ _ h => h) (by rfl) (by first | assumption | trivial) ?_
        simp only [Act.put, List.setIfInBounds_toArray, List.set_cons_zero, List.set_cons_succ]
        refine skip21 (i := 13) (d := 95) rfl (by kernel_rfl) (by kernel_rfl) (by kernel_rfl) (fun _ _ _ h => h) (by rfl) (by first | assumption | trivial) ?_
        simp only [Act.put, List.setIfInBounds_toArray, List.set_cons_zero, List.set_cons_succ]
        refine skip21 (i := 14) (d := 96) rfl (by kernel_rfl) (by kernel_rfl) (by kernel_rfl) (fun _ _ _ h => h) (by rfl) (by first | assumption | trivial) ?_
        simp only [Act.put, List.setIfInBounds_toArray, List.set_cons_zero, List.set_cons_succ]
        refine skip21 (i := 15) (d := 97) rfl (by kernel_rfl) (by kernel_rfl) (by kernel_rfl) (fun _ _ _ h => h) (by rfl) (by first | assumption | trivial) ?_
        simp only [Act.put, List.setIfInBounds_toArray, List.set_cons_zero, List.set_cons_succ]
        refine skip21 (i := 16) (d := 98) rfl (by kernel_rfl) (by kernel_rfl) (by kernel_rfl) (fun _ _ _ h => h) (by rfl) (by first | assumption | trivial) ?_
        simp only [Act.put, List.setIfInBounds_toArray, List.set_cons_zero, List.set_cons_succ]
        refine skip21 (i := 17) (d := 99) rfl (by kernel_rfl) (by kernel_rfl) (by kernel_rfl) (fun _ _ _ h => h) (by rfl) (by first | assumption | trivial) ?_
        simp only [Act.put, List.setIfInBounds_toArray, List.set_cons_zero, List.set_cons_succ]
        refine skip21 (i := 18) (d := 100) rfl (by kernel_rfl) (by kernel_rfl) (by kernel_rfl) (fun _ _ _ h => h) (by rfl) (by first | assumption | trivial) ?_
        simp only [Act.put, List.setIfInBounds_toArray, List.set_cons_zero, List.set_cons_succ]
        refine skip21 (i := 19) (d := 101) rfl (by kernel_rfl) (by kernel_rfl) (by kernel_rfl) (fun _ _ _ h => h) (by rfl) (by first | assumption | trivial) ?_
        simp only [Act.put, List.setIfInBounds_toArray, List.set_cons_zero, List.set_cons_succ]
        refine skip21 (i := 20) (d := 102) rfl (by kernel_rfl) (by kernel_rfl) (by kernel_rfl) (fun _ _ _ h => h) (by rfl) (by first | assumption | trivial) ?_
        simp only [Act.put, List.setIfInBounds_toArray, List.set_cons_zero, List.set_cons_succ]
        refine Hl.takeL (i := 21) (d := 103) (v := ?_) rfl (by kernel_rfl) (by kernel_rfl) (by kernel_rfl) (fun _ _ _ h => h) (by rfl) ?_ (by first | assumption | trivial) ?_
        rotate_left
        · intro w hSw; skip; go_simp; (try with_reducible rfl)
        simp only [Act.put, List.setIfInBounds_toArray, List.set_cons_zero, List.set_cons_succ]
        refine Hl.takeL (i := 22) (d := 104) (v := ?_) rfl (by kernel_rfl) (by kernel_rfl) (by kernel_rfl) (fun _ _ _ h => h) (by rfl) ?_ (by first | assumption | trivial) ?_
        rotate_left
        · intro w hSw; skip; go_simp; (try with_reducible rfl)
        simp only [Act.put, List.setIfInBounds_toArray, List.set_cons_zero, List.set_cons_succ]
        refine Hl.takeL (i := 23) (d := 105) (v := ?_) rfl (by kernel_rfl) (by kernel_rfl) (by kernel_rfl) (fun _ _ _ h => h) (by rfl) ?_ (by first | assumption | trivial) ?_
        rotate_left
        · intro w hSw; skip; go_simp; (try with_reducible rfl)
        simp only [Act.put, List.setIfInBounds_toArray, List.set_cons_zero, List.set_cons_succ]
        refine Hl.takeL (i := 24) (d := 106) (v := ?_) rfl (by kernel_rfl) (by kernel_rfl) (by kernel_rfl) (fun _ _ _ h => h) (by rfl) ?_ (by first | assumption | trivial) ?_
        rotate_left
        · intro w hSw; skip; go_simp; (try with_reducible rfl)
        simp only [Act.put, List.setIfInBounds_toArray, List.set_cons_zero, List.set_cons_succ]
        refine Hl.takeL (i := 25) (d := 107) (v := ?_) rfl (by kernel_rfl) (by kernel_rfl) (by kernel_rfl) (fun _ _ _ h => h) (by rfl) ?_ (by first | assumption | trivial) ?_
        rotate_left
        · intro w hSw; skip; go_simp; (try with_reducible rfl)
        simp only [Act.put, List.setIfInBounds_toArray, List.set_cons_zero, List.set_cons_succ]
        refine Hl.takeL (i := 26) (d := 108) (v := ?_) rfl (by kernel_rfl) (by kernel_rfl) (by kernel_rfl) (fun _ _ _ h => h) (by rfl) ?_ (by first | assumption | trivial) ?_
        rotate_left
        · intro w hSw; skip; go_simp; (try with_reducible rfl)
        simp only [Act.put, List.setIfInBounds_toArray, List.set_cons_zero, List.set_cons_succ]
        refine Hl.takeL (i := 27) (d := 109) (v := ?_) rfl (by kernel_rfl) (by kernel_rfl) (by kernel_rfl) (fun _ _ _ h => h) (by rfl) ?_ (by first | assumption | trivial) ?_
        rotate_left
        · intro w hSw; skip; go_simp; (try with_reducible rfl)
        simp only [Act.put, List.setIfInBounds_toArray, List.set_cons_zero, List.set_cons_succ]
        refine Hl.takeL (i := 28) (d := 110) (v := ?_) rfl (by kernel_rfl) (by kernel_rfl) (by kernel_rfl) (fun _ _ _ h => h) (by rfl) ?_ (by first | assumption | trivial) ?_
        rotate_left
        · intro w hSw; skip; go_simp; (try with_reducible rfl)
        simp only [Act.put, List.setIfInBounds_toArray, List.set_cons_zero, List.set_cons_succ]
        refine Hl.takeL (i := 29) (d := 111) (v := ?_) rfl (by kernel_rfl) (by kernel_rfl) (by kernel_rfl) (fun _ _ _ h => h) (by rfl) ?_ (by first | assumption | trivial) ?_
        rotate_left
        · intro w hSw; skip; go_simp; (try with_reducible rfl)
        simp only [Act.put, List.setIfInBounds_toArray, List.set_cons_zero, List.set_cons_succ]
        refine Hl.takeL (i := 30) (d := 112) (v := ?_) rfl (by kernel_rfl) (by kernel_rfl) (by kernel_rfl) (fun _ _ _ h => h) (by rfl) ?_ (by first | assumption | trivial) ?_
        rotate_left
        · intro w hSw; skip; go_simp; (try with_reducible rfl)
        simp only [Act.put, List.setIfInBounds_toArray, List.set_cons_zero, List.set_cons_succ]
        refine Hl.takeL (i := 31) (d := 6) (v := ?_) rfl (by kernel_rfl) (by kernel_rfl) (by kernel_rfl) (fun _ _ _ h => h) (by rfl) ?_ (by first | assumption | trivial) ?_
        rotate_left
        · intro w hSw; skip; go_simp; (try with_reducible rfl)
        simp only [Act.put, List.setIfInBounds_toArray, List.set_cons_zero, List.set_cons_succ]
        refine wpAnyH_done (by kernel_rfl) ?_ _
        go_wp2
        go_ret
        exact ⟨rfl, HX.out⟩
      · obtain ⟨rfl, rfl⟩ := HFt.out rfl
        have hsz : 0 < d.size := by
          have h := HFn.out
          simp only [Q21.fine, Bool.and_eq_true, decide_eq_true_eq] at h
          rcases Hm.out with ⟨_, h4⟩ | ⟨_, h1⟩ <;> omega
        obtain ⟨b0, hb0⟩ : ∃ b : Nat, (d[0]'hsz).toNat = b := ⟨_, rfl⟩
        have HB0 : Hid ((d[0]'hsz).toNat = b0) := hb0
        have hb256 : (b0 : Int) < 256 := by have := (d[0]'hsz).toNat_lt; omega
        rw [byte_eq d 0 hsz, hb0] at HRb
        clear hb0 HFt HFn
        have HRc : Hid (∀ w' : World, RowT 36 w' g10 #[.int .i64 (k : Int), .int .i64 (b0 : Int), .int .u16 g1, .bool e1] → w'.cell? ⟨g10, 0, none⟩ = some (.int .i64 (k : Int)) ∧ w'.cell? ⟨g10, 1, none⟩ = some (.int .i64 (b0 : Int))) := fun w' h => ⟨h.c 0 _ rfl, h.c 1 _ rfl⟩
        refine wp_region_held_drew (S := fun w' : World => RowT 36 w' g10 #[.int .i64 (k : Int), .int .i64 (b0 : Int), .int .u16 g1, .bool e1]) (by kernel_rfl) HRb.out (fun hHeld => ?_)
        refine Hl.takeL (i := 0) (d := 82) (v := ?_) rfl (by kernel_rfl) (by kernel_rfl) (by kernel_rfl) (fun _ _ _ h => h) (by rfl) ?_ (by first | assumption | trivial) ?_
        rotate_left
        · intro w hSw; obtain ⟨q1, q2⟩ := HRc.out w hSw; go_simp; (try with_reducible rfl)
        simp only [Act.put, List.setIfInBounds_toArray, List.set_cons_zero, List.set_cons_succ]
        refine Hl.takeL (i := 1) (d := 83) (v := ?_) rfl (by kernel_rfl) (by kernel_rfl) (by kernel_rfl) (fun _ _ _ h => h) (by rfl) ?_ (by first | assumption | trivial) ?_
        rotate_left
        · intro w hSw; obtain ⟨q1, q2⟩ := HRc.out w hSw; go_simp; (try with_reducible rfl)
        simp only [Act.put, List.setIfInBounds_toArray, List.set_cons_zero, List.set_cons_succ]
        refine Hl.takeL (i := 2) (d := 84) (v := ?_) rfl (by kernel_rfl) (by kernel_rfl) (by kernel_rfl) (fun _ _ _ h => h) (by rfl) ?_ (by first | assumption | trivial) ?_
        rotate_left
        · intro w hSw; obtain ⟨q1, q2⟩ := HRc.out w hSw; go_simp; (try with_reducible rfl)
        simp only [Act.put, List.setIfInBounds_toArray, List.set_cons_zero, List.set_cons_succ]
        refine Hl.takeL (i := 3) (d := 85) (v := ?_) rfl (by kernel_rfl) (by kernel_rfl) (by kernel_rfl) (fun _ _ _ h => h) (by rfl) ?_ (by first | assumption | trivial) ?_
        rotate_left
        · intro w hSw; obtain ⟨q1, q2⟩ := HRc.out w hSw; go_simp; (try with_reducible rfl)
        simp only [Act.put, List.setIfInBounds_toArray, List.set_cons_zero, List.set_cons_succ]
        refine Hl.takeL (i := 4) (d := 86) (v := ?_) rfl (by kernel_rfl) (by kernel_rfl) (by kernel_rfl) (fun _ _ _ h => h) (by rfl) ?_ (by first | assumption | trivial) ?_
        rotate_left
        · intro w hSw; obtain ⟨q1, q2⟩ := HRc.out w hSw; go_simp; (try with_reducible rfl)
        simp only [Act.put, List.setIfInBounds_toArray, List.set_cons_zero, List.set_cons_succ]
        refine Hl.takeL (i := 5) (d := 87) (v := ?_) rfl (by kernel_rfl) (by kernel_rfl) (by kernel_rfl) (fun _ _ _ h => h) (by rfl) ?_ (by first | assumption | trivial) ?_
        rotate_left
        · intro w hSw; obtain ⟨q1, q2⟩ := HRc.out w hSw; go_simp; (try with_reducible rfl)
        simp only [Act.put, List.setIfInBounds_toArray, List.set_cons_zero, List.set_cons_succ]
        refine Hl.takeL (i := 6) (d := 88) (v := ?_) rfl (by kernel_rfl) (by kernel_rfl) (by kernel_rfl) (fun _ _ _ h => h) (by rfl) ?_ (by first | assumption | trivial) ?_
        rotate_left
        · intro w hSw; obtain ⟨q1, q2⟩ := HRc.out w hSw; go_simp; (try with_reducible rfl)
        simp only [Act.put, List.setIfInBounds_toArray, List.set_cons_zero, List.set_cons_succ]
        refine Hl.takeL (i := 7) (d := 89) (v := ?_) rfl (by kernel_rfl) (by kernel_rfl) (by kernel_rfl) (fun _ _ _ h => h) (by rfl) ?_ (by first | assumption | trivial) ?_
        rotate_left
        · intro w hSw; obtain ⟨q1, q2⟩ := HRc.out w hSw; go_simp; (try with_reducible rfl)
        simp only [Act.put, List.setIfInBounds_toArray, List.set_cons_zero, List.set_cons_succ]
        refine Hl.takeL (i := 8) (d := 90) (v := ?_) rfl (by kernel_rfl) (by kernel_rfl) (by kernel_rfl) (fun _ _ _ h => h) (by rfl) ?_ (by first | assumption | trivial) ?_
        rotate_left
        · intro w hSw; obtain ⟨q1, q2⟩ := HRc.out w hSw; go_simp; (try with_reducible rfl)
        simp only [Act.put, List.setIfInBounds_toArray, List.set_cons_zero, List.set_cons_succ]
        refine Hl.takeL (i := 9) (d := 91) (v := ?_) rfl (by kernel_rfl) (by kernel_rfl) (by kernel_rfl) (fun _ _ _ h => h) (by rfl) ?_ (by first | assumption | trivial) ?_
        rotate_left
        · intro w hSw; obtain ⟨q1, q2⟩ := HRc.out w hSw; go_simp; (try with_reducible rfl)
        simp only [Act.put, List.setIfInBounds_toArray, List.set_cons_zero, List.set_cons_succ]
        refine Hl.takeL (i := 10) (d := 92) (v := ?_) rfl (by kernel_rfl) (by kernel_rfl) (by kernel_rfl) (fun _ _ _ h => h) (by rfl) ?_ (by first | assumption | trivial) ?_
        rotate_left
        · intro w hSw; obtain ⟨q1, q2⟩ := HRc.out w hSw; go_simp; (try with_reducible rfl)
        simp only [Act.put, List.setIfInBounds_toArray, List.set_cons_zero, List.set_cons_succ]
        refine Hl.takeL (i := 11) (d := 93) (v := ?_) rfl (by kernel_rfl) (by kernel_rfl) (by kernel_rfl) (fun _ _ _ h => h) (by rfl) ?_ (by first | assumption | trivial) ?_
        rotate_left
        · intro w hSw; obtain ⟨q1, q2⟩ := HRc.out w hSw; go_simp; (try with_reducible rfl)
        simp only [Act.put, List.setIfInBounds_toArray, List.set_cons_zero, List.set_cons_succ]
        simp only [show IntKind.i64.wrap (k : Int) = (k : Int) from (by rw [IntKind.wrap_i64]; omega)]
        refine Hl.takeL (i := 12) (d := 94) (v := ?_) rfl (by kernel_rfl) (by kernel_rfl) (by kernel_rfl) (fun _ _ _ h => h) (by rfl) ?_ (by first | assumption | trivial) ?_
        rotate_left
        · intro w hSw; obtain ⟨q1, q2⟩ := HRc.out w hSw; go_simp; (try with_reducible rfl)
        simp only [Act.put, List.setIfInBounds_toArray, List.set_cons_zero, List.set_cons_succ]
        refine Hl.takeL (i := 13) (d := 95) (v := ?_) rfl (by kernel_rfl) (by kernel_rfl) (by kernel_rfl) (fun _ _ _ h => h) (by rfl) ?_ (by first | assumption | trivial) ?_
        rotate_left
        · intro w hSw; obtain ⟨q1, q2⟩ := HRc.out w hSw; go_simp; (try with_reducible rfl)
        simp only [Act.put, List.setIfInBounds_toArray, List.set_cons_zero, List.set_cons_succ]
        refine Hl.takeL (i := 14) (d := 96) (v := ?_) rfl (by kernel_rfl) (by kernel_rfl) (by kernel_rfl) (fun _ _ _ h => h) (by rfl) ?_ (by first | assumption | trivial) ?_
        rotate_left
        · intro w hSw; obtain ⟨q1, q2⟩ := HRc.out w hSw; go_simp; (try with_reducible rfl)
        simp only [Act.put, List.setIfInBounds_toArray, List.set_cons_zero, List.set_cons_succ]
        refine Hl.takeL (i := 15) (d := 97) (v := ?_) rfl (by kernel_rfl) (by kernel_rfl) (by kernel_rfl) (fun _ _ _ h => h) (by rfl) ?_ (by first | assumption | trivial) ?_
        rotate_left
        · intro w hSw; obtain ⟨q1, q2⟩ := HRc.out w hSw; go_simp; (try with_reducible rfl)
        simp only [Act.put, List.setIfInBounds_toArray, List.set_cons_zero, List.set_cons_succ]
        refine Hl.takeL (i := 16) (d := 98) (v := ?_) rfl (by kernel_rfl) (by kernel_rfl) (by kernel_rfl) (fun _ _ _ h => h) (by rfl) ?_ (by first | assumption | trivial) ?_
        rotate_left
        · intro w hSw; obtain ⟨q1, q2⟩ := HRc.out w hSw; go_simp; (try with_reducible rfl)
        simp only [Act.put, List.setIfInBounds_toArray, List.set_cons_zero, List.set_cons_succ]
        refine Hl.takeL (i := 17) (d := 99) (v := ?_) rfl (by kernel_rfl) (by kernel_rfl) (by kernel_rfl) (fun _ _ _ h => h) (by rfl) ?_ (by first | assumption | trivial) ?_
        rotate_left
        · intro w hSw; obtain ⟨q1, q2⟩ := HRc.out w hSw; have hB := HB0.out; have hi : (0 : Int) < (d.size : Int) := (by omega); go_simp; (try with_reducible rfl)
        simp only [Act.put, List.setIfInBounds_toArray, List.set_cons_zero, List.set_cons_succ]
        refine Hl.takeL (i := 18) (d := 100) (v := ?_) rfl (by kernel_rfl) (by kernel_rfl) (by kernel_rfl) (fun _ _ _ h => h) (by rfl) ?_ (by first | assumption | trivial) ?_
        rotate_left
        · intro w hSw; obtain ⟨q1, q2⟩ := HRc.out w hSw; go_simp; (try with_reducible rfl)
        simp only [Act.put, List.setIfInBounds_toArray, List.set_cons_zero, List.set_cons_succ]
        simp only [show IntKind.i64.wrap (b0 : Int) = (b0 : Int) from (by rw [IntKind.wrap_i64]; omega)]
        refine Hl.takeL (i := 19) (d := 101) (v := ?_) rfl (by kernel_rfl) (by kernel_rfl) (by kernel_rfl) (fun _ _ _ h => h) (by rfl) ?_ (by first | assumption | trivial) ?_
        rotate_left
        · intro w hSw; obtain ⟨q1, q2⟩ := HRc.out w hSw; go_simp; (try with_reducible rfl)
        simp only [Act.put, List.setIfInBounds_toArray, List.set_cons_zero, List.set_cons_succ]
        refine Hl.takeL (i := 20) (d := 102) (v := ?_) rfl (by kernel_rfl) (by kernel_rfl) (by kernel_rfl) (fun _ _ _ h => h) (by rfl) ?_ (by first | assumption | trivial) ?_
        rotate_left
        · intro w hSw; obtain ⟨q1, q2⟩ := HRc.out w hSw; go_simp; (try with_reducible rfl)
        simp only [Act.put, List.setIfInBounds_toArray, List.set_cons_zero, List.set_cons_succ]
        refine Hl.takeL (i := 21) (d := 103) (v := ?_) rfl (by kernel_rfl) (by kernel_rfl) (by kernel_rfl) (fun _ _ _ h => h) (by rfl) ?_ (by first | assumption | trivial) ?_
        rotate_left
        · intro w hSw; obtain ⟨q1, q2⟩ := HRc.out w hSw; go_simp; (try with_reducible rfl)
        simp only [Act.put, List.setIfInBounds_toArray, List.set_cons_zero, List.set_cons_succ]
        refine Hl.takeL (i := 22) (d := 104) (v := ?_) rfl (by kernel_rfl) (by kernel_rfl) (by kernel_rfl) (fun _ _ _ h => h) (by rfl) ?_ (by first | assumption | trivial) ?_
        rotate_left
        · intro w hSw; obtain ⟨q1, q2⟩ := HRc.out w hSw; go_simp; (try with_reducible rfl)
        simp only [Act.put, List.setIfInBounds_toArray, List.set_cons_zero, List.set_cons_succ]
        refine Hl.takeL (i := 23) (d := 105) (v := ?_) rfl (by kernel_rfl) (by kernel_rfl) (by kernel_rfl) (fun _ _ _ h => h) (by rfl) ?_ (by first | assumption | trivial) ?_
        rotate_left
        · intro w hSw; obtain ⟨q1, q2⟩ := HRc.out w hSw; go_simp; (try with_reducible rfl)
        simp only [Act.put, List.setIfInBounds_toArray, List.set_cons_zero, List.set_cons_succ]
        refine Hl.takeL (i := 24) (d := 106) (v := ?_) rfl (by kernel_rfl) (by kernel_rfl) (by kernel_rfl) (fun _ _ _ h => h) (by rfl) ?_ (by first | assumption | trivial) ?_
        rotate_left
        · intro w hSw; obtain ⟨q1, q2⟩ := HRc.out w hSw; go_simp; (try with_reducible rfl)
        simp only [Act.put, List.setIfInBounds_toArray, List.set_cons_zero, List.set_cons_succ]
        refine Hl.takeL (i := 25) (d := 107) (v := ?_) rfl (by kernel_rfl) (by kernel_rfl) (by kernel_rfl) (fun _ _ _ h => h) (by rfl) ?_ (by first | assumption | trivial) ?_
        rotate_left
        · intro w hSw; obtain ⟨q1, q2⟩ := HRc.out w hSw; go_simp; (try with_reducible rfl)
        simp only [Act.put, List.setIfInBounds_toArray, List.set_cons_zero, List.set_cons_succ]
        refine Hl.takeL (i := 26) (d := 108) (v := ?_) rfl (by kernel_rfl) (by kernel_rfl) (by kernel_rfl) (fun _ _ _ h => h) (by rfl) ?_ (by first | assumption | trivial) ?_
        rotate_left
        · intro w hSw; obtain ⟨q1, q2⟩ := HRc.out w hSw; go_simp; (try with_reducible rfl)
        simp only [Act.put, List.setIfInBounds_toArray, List.set_cons_zero, List.set_cons_succ]
        refine Hl.takeL (i := 27) (d := 109) (v := ?_) rfl (by kernel_rfl) (by kernel_rfl) (by kernel_rfl) (fun _ _ _ h => h) (by rfl) ?_ (by first | assumption | trivial) ?_
        rotate_left
        · intro w hSw; obtain ⟨q1, q2⟩ := HRc.out w hSw; go_simp; (try with_reducible rfl)
        simp only [Act.put, List.setIfInBounds_toArray, List.set_cons_zero, List.set_cons_succ]
        refine Hl.takeL (i := 28) (d := 110) (v := ?_) rfl (by kernel_rfl) (by kernel_rfl) (by kernel_rfl) (fun _ _ _ h => h) (by rfl) ?_ (by first | assumption | trivial) ?_
        rotate_left
        · intro w hSw; obtain ⟨q1, q2⟩ := HRc.out w hSw; go_simp; (try with_reducible rfl)
        simp only [Act.put, List.setIfInBounds_toArray, List.set_cons_zero, List.set_cons_succ]
        refine Hl.takeL (i := 29) (d := 111) (v := ?_) rfl (by kernel_rfl) (by kernel_rfl) (by kernel_rfl) (fun _ _ _ h => h) (by rfl) ?_ (by first | assumption | trivial) ?_
        rotate_left
        · intro w hSw; obtain ⟨q1, q2⟩ := HRc.out w hSw; go_simp; (try with_reducible rfl)
        simp only [Act.put, List.setIfInBounds_toArray, List.set_cons_zero, List.set_cons_succ]
        refine Hl.takeL (i := 30) (d := 112) (v := ?_) rfl (by kernel_rfl) (by kernel_rfl) (by kernel_rfl) (fun _ _ _ h => h) (by rfl) ?_ (by first | assumption | trivial) ?_
        rotate_left
        · intro w hSw; obtain ⟨q1, q2⟩ := HRc.out w hSw; go_simp; (try with_reducible rfl)
        simp only [Act.put, List.setIfInBounds_toArray, List.set_cons_zero, List.set_cons_succ]
        refine Hl.takeL (i := 31) (d := 6) (v := ?_) rfl (by kernel_rfl) (by kernel_rfl) (by kernel_rfl) (fun _ _ _ h => h) (by rfl) ?_ (by first | assumption | trivial) ?_
        rotate_left
        · intro w hSw; skip; go_simp; (try with_reducible rfl)
        simp only [Act.put, List.setIfInBounds_toArray, List.set_cons_zero, List.set_cons_succ]
        refine wpAnyH_done (by kernel_rfl) ?_ _
        go_wp2
        go_ret
        exact ⟨rfl, HX.out⟩
end Go.Proofs.YtoinkaakiohclaaDoor.refmsgForms
