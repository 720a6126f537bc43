/- Layer 21: the document's Beats. -/
import Derived.Test.YtoinkaakiohclaaDoorR21
import Derived.Test.YtoinkaakiohclaaDoorU8
import Derived.Test.YtoinkaakiohclaaDoorL2
import Derived.Lib.EndianBits
import Derived.Deep.CutBlock
import Derived.WalkMore
namespace Go.Proofs.YtoinkaakiohclaaDoor
open Go.RowKit Go.WideShapes
set_option linter.unusedVariables false
/-- A matrix' copy, a frame's copy, the answer in the making, side by side. -/
structure Gx (w wB : World) (m : Mx.M) (a : Ma) (fc bs : Array Value) : Prop where
  mat : RowT 27 wB w.heap.size (mCs m a)
  fra : RowT 30 wB (w.heap.size + 1) fc
  res : RowT 36 wB (w.heap.size + 2) bs
  bel : Below w.heap.size w wB
theorem Gx.on {w wB w' : World} {m : Mx.M} {a : Ma} {fc bs : Array Value} (h : Gx w wB m a fc bs) (hb : Below wB.heap.size wB w') : Gx w w' m a fc bs := ⟨h.mat.on hb, h.fra.on hb, h.res.on hb, h.bel.trans (hb.mono h.bel.size)⟩
theorem Gx.mk' {w : World} {m : Mx.M} {a : Ma} {fc bs : Array Value} : Gx w (((w.alloc (.cells (mCs m a) 27)).alloc (.cells fc 30)).alloc (.cells bs 36)) m a fc bs := by
  have b1 : Below w.heap.size w (w.alloc (.cells (mCs m a) 27)) := (Below.refl _ _).alloc (Nat.le_refl _) _
  have b2 : Below (w.alloc (.cells (mCs m a) 27)).heap.size (w.alloc (.cells (mCs m a) 27)) ((w.alloc (.cells (mCs m a) 27)).alloc (.cells fc 30)) := (Below.refl _ _).alloc (Nat.le_refl _) _
  have b3 : Below ((w.alloc (.cells (mCs m a) 27)).alloc (.cells fc 30)).heap.size ((w.alloc (.cells (mCs m a) 27)).alloc (.cells fc 30)) (((w.alloc (.cells (mCs m a) 27)).alloc (.cells fc 30)).alloc (.cells bs 36)) := (Below.refl _ _).alloc (Nat.le_refl _) _
  have r1 : RowT 27 (w.alloc (.cells (mCs m a) 27)) w.heap.size (mCs m a) := RowT.new _ _ _
  have r2 : RowT 30 ((w.alloc (.cells (mCs m a) 27)).alloc (.cells fc 30)) (w.alloc (.cells (mCs m a) 27)).heap.size fc := RowT.new _ _ _
  have r3 : RowT 36 (((w.alloc (.cells (mCs m a) 27)).alloc (.cells fc 30)).alloc (.cells bs 36)) ((w.alloc (.cells (mCs m a) 27)).alloc (.cells fc 30)).heap.size bs := RowT.new _ _ _
  simp only [World.size_alloc] at r2 r3
  exact ⟨(r1.on b2).on b3, r2.on b3, r3, (b1.trans (b2.mono b1.size)).trans (b3.mono (b1.trans (b2.mono b1.size)).size)⟩
theorem binfo21 : (Tryd.prog.info? 36).map (·.size) = some 4 := by kernel_rfl
/-- The answer's cells written. -/
theorem Gx.store {w wB : World} {m : Mx.M} {a : Ma} {fc bs : Array Value} {ops : Array Oper} {rest : List Oper} {o : Oper} {act : Act} {Q : Exit → Act → World → Prop} (h : Gx w wB m a fc bs) (hz : bs.size = 4) (hgd : o.guard = none) (x y : Operand) (ho : o.op = .store 36 x y) (r c g : Int) (d : Bool)
    (hx : act.eval x = .pointer (some ⟨w.heap.size + 2, 0, none⟩)) (hy : act.eval y = .agg #[.int .i64 r, .int .i64 c, .int .u16 g, .bool d])
    (hk : ∀ w', RowT 36 w' (w.heap.size + 2) #[.int .i64 r, .int .i64 c, .int .u16 g, .bool d] → Below w.heap.size w w' → wpList Tryd.prog ops Q rest (act.put o.dst undef) w') : wpList Tryd.prog ops Q (o :: rest) act wB :=
  Lw.wpList_store_rowB hgd 36 x y ho (w.heap.size + 2) _ hx hy 36 bs h.res binfo21 hz (by simp [Value.oneCell']) w.heap.size w h.bel (by omega) (fun w' hr _ _ hb => hk w' hr hb)
theorem Gx.row {w wB : World} {m : Mx.M} {a : Ma} {fc bs : Array Value} (h : Gx w wB m a fc bs) {g : Nat} (hg : w.heap.size + 2 < g) (cs : Array Value) : Gx w (wB.setRow g cs) m a fc bs := ⟨(setRow_other _ _ _ _ (by omega)).trans h.mat, (setRow_other _ _ _ _ (by omega)).trans h.fra, (setRow_other _ _ _ _ (by omega)).trans h.res, below_setRow h.bel (by omega) _⟩
theorem Gx.cell {w wB : World} {m : Mx.M} {a : Ma} {fc bs : Array Value} (h : Gx w wB m a fc bs) {g : Nat} (hg : w.heap.size + 2 < g) (k : Nat) (v : Value) : Gx w (wB.setCell ⟨g, k, none⟩ v) m a fc bs := ⟨(heap_setCell_other _ ⟨g, k, none⟩ _ _ (by show _ ≠ g; omega)).trans h.mat, (heap_setCell_other _ ⟨g, k, none⟩ _ _ (by show _ ≠ g; omega)).trans h.fra, (heap_setCell_other _ ⟨g, k, none⟩ _ _ (by show _ ≠ g; omega)).trans h.res, h.bel.setCell (by show _ ≤ g; omega) _⟩
theorem or21 (a b : Nat) (ha : (a : Int) < 256) (hb : (b : Int) < 256) : bits .or .u16 (IntKind.u16.wrap (IntKind.u16.wrap (a : Int) * 256)) (IntKind.u16.wrap (b : Int)) = ((a * 256 + b : Nat) : Int) := by
  have e1 : IntKind.u16.wrap (a : Int) = (a : Int) := by rw [IntKind.wrap_u16]; omega
  have e2 : IntKind.u16.wrap (b : Int) = (b : Int) := by rw [IntKind.wrap_u16]; omega
  have e3 : IntKind.u16.wrap ((a : Int) * 256) = (a : Int) * 256 := by rw [IntKind.wrap_u16]; omega
  have ec : bits .or .u16 ((a : Int) * 256) (b : Int) = bits .or .u16 (b : Int) ((a : Int) * 256) := by simp only [bits, BitVec.or_comm]
  rw [e1, e2, e3, ec, Go.u16_or8 (b : Int) ((a : Int) * 256) (by omega) (by omega) (by omega) (by omega) (by omega)]
  omega
theorem byte_eq (d : ByteArray) (i : Nat) (h : i < d.size) : Q21.byte d i = (d[i]'h).toNat := by
  unfold Q21.byte
  have e : d.data[i]? = some (d[i]'h) := Array.getElem?_eq_getElem h
  rw [e]
def cand (m : Mx.M) (x : Bool) (n : Nat) (r : Bool) (d : ByteArray) : Bool := Fm.isF x n r d.data.toList && (!x && (!r && (decide (m.ref ≤ n) && decide (1 ≤ d.size))))
set_option maxRecDepth 100000 in
set_option maxHeartbeats 8000000 in
theorem rbeats_any (w : World) (m : Mx.M) (a : Ma) (x : Bool) (n : Nat) (r : Bool) (d : ByteArray) (hm : MIn w m a) (hwf : Mx.Wf m) (hn : n < 4294967296) (hd : d.size ≤ 1000) : Calls Tryd.prog 12 #[mV m a, .agg #[.bool x, .int .u32 (n : Int), .bool r, .string d]] w fun e w' => e = .returned (btV (Q21.parse m x n r d)) ∧ Below w.heap.size w w' := by
  have HG : Hid (Gx w (((w.alloc (.cells (mCs m a) 27)).alloc (.cells #[.bool x, .int .u32 (n : Int), .bool r, .string d] 30)).alloc (.cells #[.int .i64 0, .int .i64 0, .int .u16 0, .bool false] 36)) m a #[.bool x, .int .u32 (n : Int), .bool r, .string d] #[.int .i64 0, .int .i64 0, .int .u16 0, .bool false]) := Gx.mk'
  have HI : Hid (∀ w', Calls Tryd.prog 22 #[.agg #[.bool x, .int .u32 (n : Int), .bool r, .string d]] w' fun e w'' => e = .returned (.bool (Fm.isF x n r d.data.toList)) ∧ Below w'.heap.size w' w'') := fun w' => refFIs_any x n r d w'
  have HMC : Hid (∀ wB p, RowT 27 wB p (mCs m a) → wB.cell? ⟨p, 0, none⟩ = some (.int .i64 m.level) ∧ wB.cell? ⟨p, 7, none⟩ = some (.int .u32 (m.ref : Int))) := fun wB p h => ⟨h.mat.1, h.mat.2.2.2.2.2.2.2.1⟩
  have HFC : Hid (∀ wB p, RowT 30 wB p #[.bool x, .int .u32 (n : Int), .bool r, .string d] → wB.cell? ⟨p, 0, none⟩ = some (.bool x) ∧ wB.cell? ⟨p, 1, none⟩ = some (.int .u32 (n : Int)) ∧ wB.cell? ⟨p, 2, none⟩ = some (.bool r) ∧ wB.cell? ⟨p, 3, none⟩ = some (.string d)) := fun wB p h => ⟨h.c 0 _ rfl, h.c 1 _ rfl, h.c 2 _ rfl, h.c 3 _ rfl⟩
  have HB : Hid (∀ w' (rank cycle : Int) (g : Nat) (dd : Bool), Below w.heap.size w w' → g < 65536 → Calls Tryd.prog 10 #[mV m a, .int .i64 rank, .int .i64 cycle, .int .u16 (g : Int), .bool dd] w' fun e w'' => e = .returned (bV (Q21.build m rank cycle g dd)) ∧ Below w'.heap.size w' w'') := fun w' rank cycle g dd hb hg => rbuild_any w' m a rank cycle g dd (hm.on hb) hg
  show Calls _ _ #[.agg (mCs m a), _] _ _
  obtain ⟨z0, z1, z2, z3⟩ := HFC.out _ _ HG.out.fra
  have hrf : m.ref < 4294967296 := hwf.ref
  clear hm hwf
  go_enter Tryd.func12, Tryd.ntmps12
  go_upto_region 1 with fail
  generalize (((w.alloc (.cells (mCs m a) 27)).alloc (.cells #[.bool x, .int .u32 (n : Int), .bool r, .string d] 30)).alloc (.cells #[.int .i64 0, .int .i64 0, .int .u16 0, .bool false] 36)) = v at HG z0 z1 z2 z3 ⊢
  go_cut [32] from 9 to 32 (fun v32 wx => v32 = .bool (!cand m x n r d) ∧ Hid (Gx w wx m a #[.bool x, .int .u32 (n : Int), .bool r, .string d] #[.int .i64 0, .int .i64 0, .int .u16 0, .bool false]))
  case first =>
    go_wp2_with fail
    refine (HI.out _).mono ?_
    rintro e w3 ⟨rfl, hb⟩
    have HG3 : Hid (Gx w w3 m a #[.bool x, .int .u32 (n : Int), .bool r, .string d] #[.int .i64 0, .int .i64 0, .int .u16 0, .bool false]) := HG.out.on hb
    clear hb HG HI z0 z1 z2 z3
    obtain ⟨y0, y7⟩ := HMC.out _ _ HG3.out.mat
    obtain ⟨z0, z1, z2, z3⟩ := HFC.out _ _ HG3.out.fra
    have HV : Hid (cand m x n r d = (Fm.isF x n r d.data.toList && (!x && (!r && (decide (m.ref ≤ n) && decide (1 ≤ d.size)))))) := rfl
    generalize Fm.isF x n r d.data.toList = b0 at HV ⊢
    cases b0
    · go_wp2_with fail
      go_meet
      case rel => exact ⟨by rw [HV.out]; rfl, HG3⟩
    · cases x
      · cases r
        · by_cases h1 : m.ref ≤ n
          · have h1' : ¬ ((n : Int) < (m.ref : Int)) := by omega
            have e1 : decide (m.ref ≤ n) = true := decide_eq_true h1
            by_cases h2 : 1 ≤ d.size
            · have h2' : ¬ ((d.size : Int) < 1) := by omega
              have e2 : decide (1 ≤ d.size) = true := decide_eq_true h2
              have HC : Hid (cand m false n false d = true) := by show cand m false n false d = true; rw [HV.out, e1, e2]; rfl
              clear HV e1 e2 h1 h2
              go_wp2_with fail
              go_meet
              case rel => exact ⟨by rw [HC.out]; first | rfl | (simp; omega), HG3⟩
            · have h2' : (d.size : Int) < 1 := by omega
              have e2 : decide (1 ≤ d.size) = false := decide_eq_false h2
              have HC : Hid (cand m false n false d = false) := by show cand m false n false d = false; rw [HV.out, e1, e2]; rfl
              clear HV e1 e2 h1 h2
              go_wp2_with fail
              go_meet
              case rel => exact ⟨by rw [HC.out]; first | rfl | (simp; omega), HG3⟩
          · have h1' : (n : Int) < (m.ref : Int) := by omega
            have e1 : decide (m.ref ≤ n) = false := decide_eq_false h1
            have HC : Hid (cand m false n false d = false) := by show cand m false n false d = false; rw [HV.out, e1]; rfl
            clear HV e1 h1
            go_wp2_with fail
            go_meet
            case rel => exact ⟨by rw [HC.out]; first | rfl | (simp; omega), HG3⟩
        · go_wp2_with fail
          go_meet
          case rel => exact ⟨by rw [HV.out]; rfl, HG3⟩
      · go_wp2_with fail
        go_meet
        case rel => exact ⟨by rw [HV.out]; rfl, HG3⟩
  case rest =>
    clear HG HI z0 z1 z2 z3
    obtain ⟨rfl, HG⟩ := hcut
    cases hc : cand m x n r d
    · have HV : Hid (Q21.parse m x n r d = none) := by show Q21.parse m x n r d = none; unfold Q21.parse; rw [if_neg (by rw [show (Fm.isF x n r d.data.toList && (!x && (!r && (decide (m.ref ≤ n) && decide (1 ≤ d.size))))) = cand m x n r d from rfl, hc]; simp)]
      clear hc
      go_upto_region 2 with fail
      go_wp2_with (refine Gx.store HG.out rfl rfl (.tmp 4) (.tmp 33) rfl 0 0 0 false rfl rfl ?_; intro w4 hr hb4; have HRr : Hid (RowT 36 w4 (w.heap.size + 2) #[.int .i64 0, .int .i64 0, .int .u16 0, .bool false]) := hr; have HB4 : Hid (Below w.heap.size w w4) := hb4; clear hr hb4)
      have q0 := HRr.out.c 0 _ rfl
      have q1 := HRr.out.c 1 _ rfl
      have q2 := HRr.out.c 2 _ rfl
      have q3 := HRr.out.c 3 _ rfl
      exact bodyPost_ret (v := btV none) (by simp [results, Tryd.results12, go_sem, btV, q0, q1, q2, q3]) rfl ⟨by rw [HV.out], HB4.out⟩
    · have hc' : (Fm.isF x n r d.data.toList && (!x && (!r && (decide (m.ref ≤ n) && decide (1 ≤ d.size))))) = true := hc
      simp only [Bool.and_eq_true, decide_eq_true_eq, Bool.not_eq_true'] at hc'
      obtain ⟨hf, rfl, rfl, h1, h2⟩ := hc'
      have HCa : Hid ((Fm.isF false n false d.data.toList && (!false && (!false && (decide (m.ref ≤ n) && decide (1 ≤ d.size))))) = true) := hc
      clear hc hf
      have hd0 : 0 < d.size := h2
      go_upto_region 3 with fail
      obtain ⟨B0, hB0⟩ : ∃ B0 : Nat, (d[0]'h2).toNat = B0 := ⟨_, rfl⟩
      have HB0 : Hid ((d[0]'h2).toNat = B0) := hB0
      have HBy0 : Hid (Q21.byte d 0 = B0) := by rw [← hB0]; exact byte_eq d 0 h2
      have hb0 : (B0 : Int) < 256 := by have := (d[0]'h2).toNat_lt; omega
      clear hB0
      obtain ⟨N, hN⟩ : ∃ N : Nat, n - m.ref = N := ⟨_, rfl⟩
      have HSub : Hid ((n : Int) - (m.ref : Int) = (N : Int)) := by show (n : Int) - (m.ref : Int) = (N : Int); omega
      have hNb : (N : Int) < 4294967296 := by omega
      have HN : Hid (n - m.ref = N) := hN
      clear hN
      have HS : Hid (∀ w' : World, RowT 27 w' w.heap.size (mCs m a) ∧ RowT 30 w' (w.heap.size + 1) #[.bool false, .int .u32 (n : Int), .bool false, .string d] → w'.cell? ⟨w.heap.size, 7, none⟩ = some (.int .u32 (m.ref : Int)) ∧ w'.cell? ⟨w.heap.size + 1, 1, none⟩ = some (.int .u32 (n : Int)) ∧ w'.cell? ⟨w.heap.size + 1, 3, none⟩ = some (.string d)) := fun w' h => ⟨(HMC.out _ _ h.1).2, h.2.c 1 _ rfl, h.2.c 3 _ rfl⟩
      replace HG : Hid (Gx w wc.drew m a #[.bool false, .int .u32 (n : Int), .bool false, .string d] #[.int .i64 0, .int .i64 0, .int .u16 0, .bool false]) := HG.out.on (Below.refl _ _).drew
      refine wp_region_held_drew (S := fun w' : World => RowT 27 w' w.heap.size (mCs m a) ∧ RowT 30 w' (w.heap.size + 1) #[.bool false, .int .u32 (n : Int), .bool false, .string d]) (by kernel_rfl) ⟨HG.out.mat, HG.out.fra⟩ (fun hHeld => ?_)
      generalize wc.drew = v3 at HG hHeld ⊢
      refine Hl.takeL (i := 0) (d := 34) (v := ?_) rfl (by kernel_rfl) (by kernel_rfl) (by kernel_rfl) (fun _ _ _ h => h) (by rfl) ?_ (by first | assumption | trivial) ?_
      rotate_left
      · intro w hSw; obtain ⟨q1, q2, q3⟩ := HS.out w hSw; go_simp; (try with_reducible rfl)
      simp only [Act.put, List.setIfInBounds_toArray, List.set_cons_zero, List.set_cons_succ]
      refine Hl.takeL (i := 1) (d := 35) (v := ?_) rfl (by kernel_rfl) (by kernel_rfl) (by kernel_rfl) (fun _ _ _ h => h) (by rfl) ?_ (by first | assumption | trivial) ?_
      rotate_left
      · intro w hSw; obtain ⟨q1, q2, q3⟩ := HS.out w hSw; go_simp; (try with_reducible rfl)
      simp only [Act.put, List.setIfInBounds_toArray, List.set_cons_zero, List.set_cons_succ]
      refine Hl.takeL (i := 2) (d := 36) (v := ?_) rfl (by kernel_rfl) (by kernel_rfl) (by kernel_rfl) (fun _ _ _ h => h) (by rfl) ?_ (by first | assumption | trivial) ?_
      rotate_left
      · intro w hSw; obtain ⟨q1, q2, q3⟩ := HS.out w hSw; go_simp; (try with_reducible rfl)
      simp only [Act.put, List.setIfInBounds_toArray, List.set_cons_zero, List.set_cons_succ]
      refine Hl.takeL (i := 3) (d := 37) (v := ?_) rfl (by kernel_rfl) (by kernel_rfl) (by kernel_rfl) (fun _ _ _ h => h) (by rfl) ?_ (by first | assumption | trivial) ?_
      rotate_left
      · intro w hSw; obtain ⟨q1, q2, q3⟩ := HS.out w hSw; go_simp; (try with_reducible rfl)
      simp only [Act.put, List.setIfInBounds_toArray, List.set_cons_zero, List.set_cons_succ]
      refine Hl.takeL (i := 4) (d := 38) (v := ?_) rfl (by kernel_rfl) (by kernel_rfl) (by kernel_rfl) (fun _ _ _ h => h) (by rfl) ?_ (by first | assumption | trivial) ?_
      rotate_left
      · intro w hSw; obtain ⟨q1, q2, q3⟩ := HS.out w hSw; have hsub := HSub.out; go_simp; (try with_reducible rfl)
      simp only [Act.put, List.setIfInBounds_toArray, List.set_cons_zero, List.set_cons_succ]
      refine Hl.takeL (i := 5) (d := 39) (v := ?_) rfl (by kernel_rfl) (by kernel_rfl) (by kernel_rfl) (fun _ _ _ h => h) (by rfl) ?_ (by first | assumption | trivial) ?_
      rotate_left
      · intro w hSw; obtain ⟨q1, q2, q3⟩ := HS.out w hSw; go_simp; (try with_reducible rfl)
      simp only [Act.put, List.setIfInBounds_toArray, List.set_cons_zero, List.set_cons_succ]
      refine Hl.takeL (i := 6) (d := 40) (v := ?_) rfl (by kernel_rfl) (by kernel_rfl) (by kernel_rfl) (fun _ _ _ h => h) (by rfl) ?_ (by first | assumption | trivial) ?_
      rotate_left
      · intro w hSw; obtain ⟨q1, q2, q3⟩ := HS.out w hSw; go_simp; (try with_reducible rfl)
      simp only [Act.put, List.setIfInBounds_toArray, List.set_cons_zero, List.set_cons_succ]
      refine Hl.takeL (i := 7) (d := 41) (v := ?_) rfl (by kernel_rfl) (by kernel_rfl) (by kernel_rfl) (fun _ _ _ h => h) (by rfl) ?_ (by first | assumption | trivial) ?_
      rotate_left
      · intro w hSw; obtain ⟨q1, q2, q3⟩ := HS.out w hSw; go_simp; (try with_reducible rfl)
      simp only [Act.put, List.setIfInBounds_toArray, List.set_cons_zero, List.set_cons_succ]
      refine Hl.takeL (i := 8) (d := 42) (v := ?_) rfl (by kernel_rfl) (by kernel_rfl) (by kernel_rfl) (fun _ _ _ h => h) (by rfl) ?_ (by first | assumption | trivial) ?_
      rotate_left
      · intro w hSw; obtain ⟨q1, q2, q3⟩ := HS.out w hSw; have hB := HB0.out; go_simp; (try with_reducible rfl)
      simp only [Act.put, List.setIfInBounds_toArray, List.set_cons_zero, List.set_cons_succ]
      refine Hl.takeL (i := 9) (d := 43) (v := ?_) rfl (by kernel_rfl) (by kernel_rfl) (by kernel_rfl) (fun _ _ _ h => h) (by rfl) ?_ (by first | assumption | trivial) ?_
      rotate_left
      · intro w hSw; obtain ⟨q1, q2, q3⟩ := HS.out w hSw; go_simp; (try with_reducible rfl)
      simp only [Act.put, List.setIfInBounds_toArray, List.set_cons_zero, List.set_cons_succ]
      refine Hl.takeL (i := 10) (d := 44) (v := ?_) rfl (by kernel_rfl) (by kernel_rfl) (by kernel_rfl) (fun _ _ _ h => h) (by rfl) ?_ (by first | assumption | trivial) ?_
      rotate_left
      · intro w hSw; obtain ⟨q1, q2, q3⟩ := HS.out w hSw; go_simp; (try with_reducible rfl)
      simp only [Act.put, List.setIfInBounds_toArray, List.set_cons_zero, List.set_cons_succ]
      have HR6 : Hid (RowT 36 (v3.alloc (.cells #[.int .i64 0, .int .i64 0, .int .u16 0, .bool false] 36)) v3.heap.size #[.int .i64 0, .int .i64 0, .int .u16 0, .bool false]) := RowT.new _ _ _
      have HG6 : Hid (Gx w (v3.alloc (.cells #[.int .i64 0, .int .i64 0, .int .u16 0, .bool false] 36)) m a #[.bool false, .int .u32 (n : Int), .bool false, .string d] #[.int .i64 0, .int .i64 0, .int .u16 0, .bool false]) := HG.out.on ((Below.refl _ _).alloc (Nat.le_refl _) _)
      refine Hl.consL (i := 11) rfl (by kernel_rfl) (fun K' hK' => ?_)
      go_simp
      refine hK'.out _ _ ⟨HG6.out.mat, HG6.out.fra⟩ (fun hHeld2 => ?_)
      clear hK' K' hHeld2 hHeld
      have HLt : Hid (w.heap.size + 2 < v3.heap.size) := HG.out.res.lt
      clear HG
      generalize v3.alloc (.cells #[.int .i64 0, .int .i64 0, .int .u16 0, .bool false] 36) = v4 at HR6 HG6 ⊢
      generalize v3.heap.size = g6 at HR6 HLt ⊢
      have eU : IntKind.u32.wrap (N : Int) = (N : Int) := by rw [IntKind.wrap_u32]; omega
      have eN : IntKind.i64.wrap (N : Int) = (N : Int) := by rw [IntKind.wrap_i64]; omega
      have eB : IntKind.i64.wrap (B0 : Int) = (B0 : Int) := by rw [IntKind.wrap_i64]; omega
      simp only [eU, eN, eB]
      clear eU eN eB
      have HNb : Hid ((N : Int) < 4294967296 ∧ (B0 : Int) < 256) := ⟨hNb, hb0⟩
      clear hNb hb0
      refine Hl.consL (i := 12) rfl (by kernel_rfl) (fun K' hK' => ?_)
      refine Hl.step_store_row rfl 36 (.tmp 6) (.tmp 44) rfl g6 #[.int .i64 (N : Int), .int .i64 (B0 : Int), .int .u16 0, .bool false] rfl rfl 36 _ HR6.out binfo21 rfl (by simp [Value.oneCell']) ?_
      have HR7 : Hid (RowT 36 (v4.setRow g6 #[.int .i64 (N : Int), .int .i64 (B0 : Int), .int .u16 0, .bool false]) g6 #[.int .i64 (N : Int), .int .i64 (B0 : Int), .int .u16 0, .bool false]) := setRow_heap _ _ _ _ _ _ HR6.out
      have HG7 : Hid (Gx w (v4.setRow g6 #[.int .i64 (N : Int), .int .i64 (B0 : Int), .int .u16 0, .bool false]) m a #[.bool false, .int .u32 (n : Int), .bool false, .string d] #[.int .i64 0, .int .i64 0, .int .u16 0, .bool false]) := HG6.out.row HLt.out _
      refine hK'.out _ _ ⟨HG7.out.mat, HG7.out.fra⟩ (fun hHeld2 => ?_)
      clear hK' K' hHeld2 HR6 HG6
      generalize v4.setRow g6 #[.int .i64 (N : Int), .int .i64 (B0 : Int), .int .u16 0, .bool false] = v5 at HR7 HG7 ⊢
      refine wpAnyH_done (by kernel_rfl) ?_ _
      simp only [Act.put]
      obtain ⟨y0, _⟩ := HMC.out _ _ HG7.out.mat
      obtain ⟨_, _, _, z3⟩ := HFC.out _ _ HG7.out.fra
      go_upto_region 4 with fail
      go_cut [53] from 45 to 53 (fun v53 wx => ∃ cb : Bool, v53 = .bool cb ∧ Hid (cb = (decide (m.level = 2) && decide (d.size = 4))) ∧ wx = v5)
      case first =>
        clear hd0 h1 hn hd
        by_cases hl : m.level = 2
        · by_cases h4 : d.size = 4
          · have HE : Hid ((decide (m.level = 2) && decide (d.size = 4)) = true) := by show _ = _; rw [decide_eq_true hl, decide_eq_true h4]; rfl
            have h4i : (d.size : Int) = 4 := by omega
            clear h4
            go_wp2_with fail
            go_meet
            case rel => exact ⟨_, rfl, by show _ = _; rw [HE.out] <;> first | rfl | (simp; omega), rfl⟩
          · have HE : Hid ((decide (m.level = 2) && decide (d.size = 4)) = false) := by show _ = _; rw [decide_eq_true hl, decide_eq_false h4]; rfl
            have h4i : ¬ ((d.size : Int) = 4) := by omega
            clear h4
            go_wp2_with fail
            go_meet
            case rel => exact ⟨_, rfl, by show _ = _; rw [HE.out] <;> first | rfl | (simp; omega), rfl⟩
        · have HE : Hid ((decide (m.level = 2) && decide (d.size = 4)) = false) := by show _ = _; rw [decide_eq_false hl]; rfl
          go_wp2_with fail
          go_meet
          case rel => exact ⟨_, rfl, by show _ = _; rw [HE.out] <;> first | rfl | (simp; omega), rfl⟩
      case rest =>
        obtain ⟨cb, rfl, HCb, hwc⟩ := hcut
        rw [hwc]
        clear hwc
        go_upto_if 53 with fail
        go_cut [] from 54 to 69 (fun wx => ∃ (G : Nat) (D : Bool), Hid (Q21.told m n d = ⟨(N : Int), (B0 : Int), G, D⟩) ∧ G < 65536 ∧ Hid (RowT 36 wx g6 #[.int .i64 (N : Int), .int .i64 (B0 : Int), .int .u16 (G : Int), .bool D]) ∧ Hid (Gx w wx m a #[.bool false, .int .u32 (n : Int), .bool false, .string d] #[.int .i64 0, .int .i64 0, .int .u16 0, .bool false]))
        case first =>
          by_cases hl : m.level = 2
          · by_cases h4 : d.size = 4
            · have h1' : 1 < d.size := by omega
              have h2' : 2 < d.size := by omega
              have h3' : 3 < d.size := by omega
              obtain ⟨B1, hB1⟩ : ∃ B : Nat, (d[1]'h1').toNat = B := ⟨_, rfl⟩
              obtain ⟨B2, hB2⟩ : ∃ B : Nat, (d[2]'h2').toNat = B := ⟨_, rfl⟩
              obtain ⟨B3, hB3⟩ : ∃ B : Nat, (d[3]'h3').toNat = B := ⟨_, rfl⟩
              have HT : Hid (Q21.told m n d = ⟨(N : Int), (B0 : Int), B2 * 256 + B3, ((B1 : Int) == 1)⟩) := by
                show Q21.told m n d = _
                unfold Q21.told
                have e : ((B1 : Int) == 1) = (B1 == 1) := by rw [Bool.eq_iff_iff]; simp; omega
                rw [if_pos ⟨hl, h4⟩, HN.out, HBy0.out, byte_eq d 1 h1', byte_eq d 2 h2', byte_eq d 3 h3', hB1, hB2, hB3, e]
              have HB23 : Hid ((d[2]'h2').toNat = B2 ∧ (d[3]'h3').toNat = B3) := ⟨hB2, hB3⟩
              have hb2 : (B2 : Int) < 256 := by have := (d[2]'h2').toNat_lt; omega
              have hb3 : (B3 : Int) < 256 := by have := (d[3]'h3').toNat_lt; omega
              obtain rfl : cb = true := by rw [HCb.out, decide_eq_true hl, decide_eq_true h4]; rfl
              have c3 := HR7.out.c 3 _ rfl
              have f3 := HR7.out.f 3
              have HR8 : Hid (∀ b, RowT 36 (v5.setCell ⟨g6, 3, none⟩ b) g6 #[.int .i64 (N : Int), .int .i64 (B0 : Int), .int .u16 0, b]) := fun b => HR7.out.set 3 b
              have HG8 : Hid (∀ b, Gx w (v5.setCell ⟨g6, 3, none⟩ b) m a #[.bool false, .int .u32 (n : Int), .bool false, .string d] #[.int .i64 0, .int .i64 0, .int .u16 0, .bool false]) := fun b => HG7.out.cell HLt.out 3 b
              clear HN HBy0 HSub HB0 h4 hB2 hB3
              go_upto_region 6 with fail
              replace HR8 := HR8.out (.bool ((B1 : Int) == 1))
              replace HG8 := HG8.out (.bool ((B1 : Int) == 1))
              generalize ((B1 : Int) == 1) = DD at HT HR8 HG8 ⊢
              generalize v5.setCell ⟨g6, 3, none⟩ (.bool DD) = v6 at HR8 HG8 ⊢
              have HR9 : Hid (RowT 36 v6.drew g6 #[.int .i64 (N : Int), .int .i64 (B0 : Int), .int .u16 0, .bool DD]) := (show RowT 36 v6 g6 _ from HR8).on (Below.refl _ _).drew
              have HG9 : Hid (Gx w v6.drew m a #[.bool false, .int .u32 (n : Int), .bool false, .string d] #[.int .i64 0, .int .i64 0, .int .u16 0, .bool false]) := (show Gx w v6 m a #[.bool false, .int .u32 (n : Int), .bool false, .string d] #[.int .i64 0, .int .i64 0, .int .u16 0, .bool false] from HG8).on (Below.refl _ _).drew
              clear HR8 HG8 HR7 HG7 c3 f3 y0 z3
              refine wp_region_held_drew (S := fun w' : World => RowT 27 w' w.heap.size (mCs m a) ∧ RowT 30 w' (w.heap.size + 1) #[.bool false, .int .u32 (n : Int), .bool false, .string d]) (by kernel_rfl) ⟨HG9.out.mat, HG9.out.fra⟩ (fun hHeld => ?_)
              generalize v6.drew = v7 at HR9 HG9 hHeld ⊢
              refine Hl.takeL (i := 0) (d := 59) (v := ?_) rfl (by kernel_rfl) (by kernel_rfl) (by kernel_rfl) (fun _ _ _ h => h) (by rfl) ?_ (by first | assumption | trivial) ?_
              rotate_left
              · intro w hSw; obtain ⟨q1, q2, q3⟩ := HS.out w hSw; go_simp; (try with_reducible rfl)
              simp only [Act.put, List.setIfInBounds_toArray, List.set_cons_zero, List.set_cons_succ]
              refine Hl.takeL (i := 1) (d := 60) (v := ?_) rfl (by kernel_rfl) (by kernel_rfl) (by kernel_rfl) (fun _ _ _ h => h) (by rfl) ?_ (by first | assumption | trivial) ?_
              rotate_left
              · intro w hSw; obtain ⟨q1, q2, q3⟩ := HS.out w hSw; go_simp; (try with_reducible rfl)
              simp only [Act.put, List.setIfInBounds_toArray, List.set_cons_zero, List.set_cons_succ]
              refine Hl.takeL (i := 2) (d := 61) (v := ?_) rfl (by kernel_rfl) (by kernel_rfl) (by kernel_rfl) (fun _ _ _ h => h) (by rfl) ?_ (by first | assumption | trivial) ?_
              rotate_left
              · intro w hSw; obtain ⟨q1, q2, q3⟩ := HS.out w hSw; have hB := HB23.out.1; have hi : (2 : Int) < (d.size : Int) := (by omega); go_simp; (try with_reducible rfl)
              simp only [Act.put, List.setIfInBounds_toArray, List.set_cons_zero, List.set_cons_succ]
              refine Hl.takeL (i := 3) (d := 62) (v := ?_) rfl (by kernel_rfl) (by kernel_rfl) (by kernel_rfl) (fun _ _ _ h => h) (by rfl) ?_ (by first | assumption | trivial) ?_
              rotate_left
              · intro w hSw; obtain ⟨q1, q2, q3⟩ := HS.out w hSw; go_simp; (try with_reducible rfl)
              simp only [Act.put, List.setIfInBounds_toArray, List.set_cons_zero, List.set_cons_succ]
              refine Hl.takeL (i := 4) (d := 63) (v := ?_) rfl (by kernel_rfl) (by kernel_rfl) (by kernel_rfl) (fun _ _ _ h => h) (by rfl) ?_ (by first | assumption | trivial) ?_
              rotate_left
              · intro w hSw; obtain ⟨q1, q2, q3⟩ := HS.out w hSw; go_simp; (try with_reducible rfl)
              simp only [Act.put, List.setIfInBounds_toArray, List.set_cons_zero, List.set_cons_succ]
              refine Hl.takeL (i := 5) (d := 64) (v := ?_) rfl (by kernel_rfl) (by kernel_rfl) (by kernel_rfl) (fun _ _ _ h => h) (by rfl) ?_ (by first | assumption | trivial) ?_
              rotate_left
              · intro w hSw; obtain ⟨q1, q2, q3⟩ := HS.out w hSw; go_simp; (try with_reducible rfl)
              simp only [Act.put, List.setIfInBounds_toArray, List.set_cons_zero, List.set_cons_succ]
              refine Hl.takeL (i := 6) (d := 65) (v := ?_) rfl (by kernel_rfl) (by kernel_rfl) (by kernel_rfl) (fun _ _ _ h => h) (by rfl) ?_ (by first | assumption | trivial) ?_
              rotate_left
              · intro w hSw; obtain ⟨q1, q2, q3⟩ := HS.out w hSw; go_simp; (try with_reducible rfl)
              simp only [Act.put, List.setIfInBounds_toArray, List.set_cons_zero, List.set_cons_succ]
              refine Hl.takeL (i := 7) (d := 66) (v := ?_) rfl (by kernel_rfl) (by kernel_rfl) (by kernel_rfl) (fun _ _ _ h => h) (by rfl) ?_ (by first | assumption | trivial) ?_
              rotate_left
              · intro w hSw; obtain ⟨q1, q2, q3⟩ := HS.out w hSw; have hB := HB23.out.2; have hi : (3 : Int) < (d.size : Int) := (by omega); go_simp; (try with_reducible rfl)
              simp only [Act.put, List.setIfInBounds_toArray, List.set_cons_zero, List.set_cons_succ]
              refine Hl.takeL (i := 8) (d := 67) (v := ?_) rfl (by kernel_rfl) (by kernel_rfl) (by kernel_rfl) (fun _ _ _ h => h) (by rfl) ?_ (by first | assumption | trivial) ?_
              rotate_left
              · intro w hSw; obtain ⟨q1, q2, q3⟩ := HS.out w hSw; go_simp; (try with_reducible rfl)
              simp only [Act.put, List.setIfInBounds_toArray, List.set_cons_zero, List.set_cons_succ]
              refine Hl.takeL (i := 9) (d := 68) (v := ?_) rfl (by kernel_rfl) (by kernel_rfl) (by kernel_rfl) (fun _ _ _ h => h) (by rfl) ?_ (by first | assumption | trivial) ?_
              rotate_left
              · intro w hSw; obtain ⟨q1, q2, q3⟩ := HS.out w hSw; go_simp; (try with_reducible rfl)
              simp only [Act.put, List.setIfInBounds_toArray, List.set_cons_zero, List.set_cons_succ]
              refine Hl.takeL (i := 10) (d := 69) (v := ?_) rfl (by kernel_rfl) (by kernel_rfl) (by kernel_rfl) (fun _ _ _ h => h) (by rfl) ?_ (by first | assumption | trivial) ?_
              rotate_left
              · intro w hSw; obtain ⟨q1, q2, q3⟩ := HS.out w hSw; go_simp; (try with_reducible rfl)
              simp only [Act.put, List.setIfInBounds_toArray, List.set_cons_zero, List.set_cons_succ]
              rw [or21 B2 B3 hb2 hb3]
              have hG : B2 * 256 + B3 < 65536 := by omega
              generalize B2 * 256 + B3 = GG at HT hG ⊢
              have c2 := HR9.out.c 2 _ rfl
              have f2 := HR9.out.f 2
              have HRs : Hid (RowT 36 (v7.setCell ⟨g6, 2, none⟩ (.int .u16 (GG : Int))) g6 #[.int .i64 (N : Int), .int .i64 (B0 : Int), .int .u16 (GG : Int), .bool DD]) := HR9.out.set 2 _
              have HGs : Hid (Gx w (v7.setCell ⟨g6, 2, none⟩ (.int .u16 (GG : Int))) m a #[.bool false, .int .u32 (n : Int), .bool false, .string d] #[.int .i64 0, .int .i64 0, .int .u16 0, .bool false]) := HG9.out.cell HLt.out 2 _
              refine Hl.consL (i := 11) rfl (by kernel_rfl) (fun K' hK' => ?_)
              go_simp
              refine hK'.out _ _ ⟨HGs.out.mat, HGs.out.fra⟩ (fun hHeld2 => ?_)
              clear hK' K' hHeld2 hHeld c2 f2 HR9 HG9
              refine wpAnyH_done (by kernel_rfl) ?_ _
              go_wp2_with fail
              go_meet
              case rel => exact ⟨GG, DD, HT, hG, HRs, HGs⟩
            · have HT : Hid (Q21.told m n d = ⟨(N : Int), (B0 : Int), 0, false⟩) := by
                show Q21.told m n d = _
                unfold Q21.told
                rw [if_neg (fun h => h4 h.2), HN.out, HBy0.out]
              obtain rfl : cb = false := by rw [HCb.out, decide_eq_false h4, Bool.and_false]
              clear h4 HN HBy0 HSub HB0
              go_wp2_with fail
              go_meet
              case rel => exact ⟨0, false, HT, by decide, HR7, HG7⟩
          · have HT : Hid (Q21.told m n d = ⟨(N : Int), (B0 : Int), 0, false⟩) := by
              show Q21.told m n d = _
              unfold Q21.told
              rw [if_neg (fun h => hl h.1), HN.out, HBy0.out]
            obtain rfl : cb = false := by rw [HCb.out, decide_eq_false hl, Bool.false_and]
            clear HN HBy0 HSub HB0
            go_wp2_with fail
            go_meet
            case rel => exact ⟨0, false, HT, by decide, HR7, HG7⟩
        case rest =>
          clear HR7 HG7 HN HBy0 HSub HB0 y0 z3 HS
          obtain ⟨G, D, HT, hG, HR, HG⟩ := hcut
          have HP : Hid (Q21.parse m false n false d = if Q21.build m (N : Int) (B0 : Int) G D = some (n, d) then some ⟨(N : Int), (B0 : Int), G, D⟩ else none) := by
            show Q21.parse m false n false d = _
            unfold Q21.parse
            rw [if_pos HCa.out, HT.out]
          clear HT HCa
          obtain ⟨y0, y1, y2, y3, y4, y5, y6, y7, y8, y9, y10⟩ := HG.out.mat.mat
          have r0 := HR.out.c 0 _ rfl
          have r1 := HR.out.c 1 _ rfl
          have r2 := HR.out.c 2 _ rfl
          have r3 := HR.out.c 3 _ rfl
          go_upto_region 7 with fail
          go_wp2_with fail
          refine (HB.out _ (N : Int) (B0 : Int) G D HG.out.bel hG).mono ?_
          rintro e w7 ⟨rfl, hb7⟩
          have HGo : Hid (∀ o, Gx w (w7.alloc o) m a #[.bool false, .int .u32 (n : Int), .bool false, .string d] #[.int .i64 0, .int .i64 0, .int .u16 0, .bool false]) := fun o => (HG.out.on hb7).on ((Below.refl _ _).alloc (Nat.le_refl _) _)
          have HRo : Hid (∀ o, RowT 36 (w7.alloc o) g6 #[.int .i64 (N : Int), .int .i64 (B0 : Int), .int .u16 (G : Int), .bool D]) := fun o => (RowT.on HR.out hb7).on ((Below.refl _ _).alloc (Nat.le_refl _) _)
          clear hb7 y0 y1 y2 y3 y4 y5 y6 y7 y8 y9 y10 r0 r1 r2 r3
          clear HB HR HG
          have z0 : ∀ o, (w7.alloc o).cell? ⟨w.heap.size + 1, 0, none⟩ = some (.bool false) := fun o => (HFC.out _ _ (HGo.out o).fra).1
          have z1 : ∀ o, (w7.alloc o).cell? ⟨w.heap.size + 1, 1, none⟩ = some (.int .u32 (n : Int)) := fun o => (HFC.out _ _ (HGo.out o).fra).2.1
          have z2 : ∀ o, (w7.alloc o).cell? ⟨w.heap.size + 1, 2, none⟩ = some (.bool false) := fun o => (HFC.out _ _ (HGo.out o).fra).2.2.1
          have z3 : ∀ o, (w7.alloc o).cell? ⟨w.heap.size + 1, 3, none⟩ = some (.string d) := fun o => (HFC.out _ _ (HGo.out o).fra).2.2.2
          cases ho : Q21.build m (N : Int) (B0 : Int) G D with
          | none =>
            simp only [bV]
            have HV : Hid (Q21.parse m false n false d = none) := by show _ = _; rw [HP.out]; rw [ho]; rfl
            clear ho HP
            go_upto_region 9 with fail
            clear z0 z1 z2 z3
            go_wp2_with (refine Gx.store (HGo.out _) rfl rfl (.tmp 4) (.tmp 90) rfl 0 0 0 false rfl rfl ?_; intro w9 hr hb4; have HRr : Hid (RowT 36 w9 (w.heap.size + 2) #[.int .i64 0, .int .i64 0, .int .u16 0, .bool false]) := hr; have HB4 : Hid (Below w.heap.size w w9) := hb4; clear hr hb4)
            have q0 := HRr.out.c 0 _ rfl
            have q1 := HRr.out.c 1 _ rfl
            have q2 := HRr.out.c 2 _ rfl
            have q3 := HRr.out.c 3 _ rfl
            exact bodyPost_ret (v := btV none) (by simp [results, Tryd.results12, go_sem, btV, q0, q1, q2, q3]) rfl ⟨by rw [HV.out], HB4.out⟩
          | some pr =>
            obtain ⟨id, ed⟩ := pr
            simp only [bV]
            by_cases hi : n = id
            · subst hi
              by_cases hd : d = ed
              · subst hd
                have HV : Hid (Q21.parse m false n false d = some ⟨(N : Int), (B0 : Int), G, D⟩) := by show _ = _; rw [HP.out]; rw [ho, if_pos rfl]
                clear ho HP
                have r0 : ∀ o, (w7.alloc o).cell? ⟨g6, 0, none⟩ = some (.int .i64 (N : Int)) := fun o => (HRo.out o).c 0 _ rfl
                have r1 : ∀ o, (w7.alloc o).cell? ⟨g6, 1, none⟩ = some (.int .i64 (B0 : Int)) := fun o => (HRo.out o).c 1 _ rfl
                have r2 : ∀ o, (w7.alloc o).cell? ⟨g6, 2, none⟩ = some (.int .u16 (G : Int)) := fun o => (HRo.out o).c 2 _ rfl
                have r3 : ∀ o, (w7.alloc o).cell? ⟨g6, 3, none⟩ = some (.bool D) := fun o => (HRo.out o).c 3 _ rfl
                go_upto_region 10 with fail
                clear z0 z1 z2 z3
                go_wp2_with (refine Gx.store (HGo.out _) rfl rfl (.tmp 4) (.tmp 91) rfl (N : Int) (B0 : Int) (G : Int) D rfl rfl ?_; intro w9 hr hb4; have HRr : Hid (RowT 36 w9 (w.heap.size + 2) #[.int .i64 (N : Int), .int .i64 (B0 : Int), .int .u16 (G : Int), .bool D]) := hr; have HB4 : Hid (Below w.heap.size w w9) := hb4; clear hr hb4 r0 r1 r2 r3)
                have q0 := HRr.out.c 0 _ rfl
                have q1 := HRr.out.c 1 _ rfl
                have q2 := HRr.out.c 2 _ rfl
                have q3 := HRr.out.c 3 _ rfl
                exact bodyPost_ret (v := btV (some ⟨(N : Int), (B0 : Int), G, D⟩)) (by simp [results, Tryd.results12, go_sem, btV, q0, q1, q2, q3]) rfl ⟨by rw [HV.out], HB4.out⟩
              · have HV : Hid (Q21.parse m false n false d = none) := by show _ = _; rw [HP.out]; rw [ho, if_neg (fun h => hd (by injection h with h; injection h with _ h; exact h.symm))]
                have hd2 : ¬ (ed.toList = d.toList) := fun h => hd (by rw [ByteArray.toList_eq, ByteArray.toList_eq] at h; exact (ByteArray.ext (Array.ext' h)).symm)
                clear ho HP
                go_upto_region 9 with fail
                clear z0 z1 z2 z3
                go_wp2_with (refine Gx.store (HGo.out _) rfl rfl (.tmp 4) (.tmp 90) rfl 0 0 0 false rfl rfl ?_; intro w9 hr hb4; have HRr : Hid (RowT 36 w9 (w.heap.size + 2) #[.int .i64 0, .int .i64 0, .int .u16 0, .bool false]) := hr; have HB4 : Hid (Below w.heap.size w w9) := hb4; clear hr hb4)
                have q0 := HRr.out.c 0 _ rfl
                have q1 := HRr.out.c 1 _ rfl
                have q2 := HRr.out.c 2 _ rfl
                have q3 := HRr.out.c 3 _ rfl
                exact bodyPost_ret (v := btV none) (by simp [results, Tryd.results12, go_sem, btV, q0, q1, q2, q3]) rfl ⟨by rw [HV.out], HB4.out⟩
            · have HV : Hid (Q21.parse m false n false d = none) := by show _ = _; rw [HP.out]; rw [ho, if_neg (fun h => hi (by injection h with h; injection h with h _; exact h.symm))]
              clear ho HP
              have hi2 : ¬ (id = n) := fun h => hi h.symm
              go_upto_region 9 with fail
              clear z0 z1 z2 z3
              go_wp2_with (refine Gx.store (HGo.out _) rfl rfl (.tmp 4) (.tmp 90) rfl 0 0 0 false rfl rfl ?_; intro w9 hr hb4; have HRr : Hid (RowT 36 w9 (w.heap.size + 2) #[.int .i64 0, .int .i64 0, .int .u16 0, .bool false]) := hr; have HB4 : Hid (Below w.heap.size w w9) := hb4; clear hr hb4)
              have q0 := HRr.out.c 0 _ rfl
              have q1 := HRr.out.c 1 _ rfl
              have q2 := HRr.out.c 2 _ rfl
              have q3 := HRr.out.c 3 _ rfl
              exact bodyPost_ret (v := btV none) (by simp [results, Tryd.results12, go_sem, btV, q0, q1, q2, q3]) rfl ⟨by rw [HV.out], HB4.out⟩
end Go.Proofs.YtoinkaakiohclaaDoor
