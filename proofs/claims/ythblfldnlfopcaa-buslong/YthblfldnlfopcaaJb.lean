/- Package bus, over the landed code: Copy, Step. -/
import Derived.Test.YthblfldnlfopcaaJa
import Derived.Test.YthblfldnlfopcaaMb
namespace Go.Proofs.Ythblfldnlfopcaa
open Go.RowKit
set_option linter.unusedVariables false
theorem binfo : (Try.prog.info? 38).map (·.size) = some 4002 := by kernel_rfl
theorem bcs_one (rg : List UInt8) (n : Nat) (fl : Bool) : (bcs rg n fl).all (·.oneCell') = true := by
  simp [bcs, Bm.cellsOf, Value.oneCell']
set_option maxHeartbeats 1000000 in
set_option maxRecDepth 100000 in
theorem bcopy_any (w : World) (p : Nat) (rg : List UInt8) (n : Nat) (fl : Bool) (h : BRow w p rg n fl) :
    Calls Try.prog 10 #[bptr p] w fun e w' => e = .returned (bptr w.heap.size) ∧ BRow w' w.heap.size rg n fl ∧ Below w.heap.size w w' := by
  have hz := (zero_of_info bzero).1
  have hl := brep
  have Hs : Hid ((Try.prog.info? 38).map (·.size) = some (bcs rg n fl).size) := binfo.trans (by rw [bcs_size n fl h.2])
  have Ho : Hid ((bcs (List.replicate 4000 0) 0 false).size = (bcs rg n fl).size) := by show _ = _; rw [bcs_size 0 false hl, bcs_size n fl h.2]
  have H1 : Hid ((bcs rg n fl).all (·.oneCell') = true) := bcs_one rg n fl
  have HR : Hid (BRow w p rg n fl) := h
  have HH : Hid (w.heap[p]? = some (.cells (bcs rg n fl) 38 (0, 0))) := h.1
  clear h hl
  generalize hcz : bcs (List.replicate 4000 0) 0 false = cz at hz Ho
  clear hcz
  generalize hc : bcs rg n fl = cs at Hs Ho H1 HH
  go_enter Try.func10, Try.ntmps10
  go_wp2_with (first | (refine wpList_load_row (P := Try.prog) rfl 38 (.tmp 5) rfl p rfl 38 _ (0, 0) _ HH.out Try.underlying38 rfl Hs.out ?_) | (refine Lw.wpList_store_rowB (P := Try.prog) rfl 38 (.tmp 3) (.tmp 6) rfl w.heap.size cs rfl rfl 38 _ (heap_alloc_new _ _) Hs.out Ho.out H1.out w.heap.size w ((Below.refl _ _).alloc (Nat.le_refl _) _) (Nat.le_refl _) ?_; intro w2 HV HO HZ2 hb3))
  go_ret
  exact ⟨rfl, ⟨by rw [hc]; exact HV.out, HR.out.2⟩, hb3⟩
def bsg (b : Bool) : UInt8 := if b then 49 else 48
theorem bsg_int (b : Bool) : ((bsg b).toNat : Int) = Bz.sg b := by cases b <;> rfl
theorem BRow.drew {w : World} {p : Nat} {rg : List UInt8} {n : Nat} {fl : Bool} (h : BRow w p rg n fl) : BRow w.drew p rg n fl := h
theorem bstep_end {w w1 : World} {p : Nat} {rg : List UInt8} {n k : Nat} (b : Bool) (h : BRow w1 p rg n false) (hk : k < 4000) (hK : Kept (· = p) w w1) :
    BRow ((w1.setCell ⟨p, k, none⟩ (.int .u8 (Bz.sg b))).setCell ⟨p, 4000, none⟩ (.int .i64 ((n : Int) + 1))) p (rg.set k (bsg b)) (n + 1) false ∧ Kept (· = p) w ((w1.setCell ⟨p, k, none⟩ (.int .u8 (Bz.sg b))).setCell ⟨p, 4000, none⟩ (.int .i64 ((n : Int) + 1))) := by
  have h1 := (h.setK k hk (bsg b)).setN (n + 1)
  rw [bsg_int, Int.natCast_add] at h1
  exact ⟨h1, Kept.trans (F := (· = p)) (G := (· = p)) (Kept.trans (F := (· = p)) (G := (· = p)) hK (Kept.set _ _ _ rfl) (fun g hg => Or.inl hg)) (Kept.set _ _ _ rfl) (fun g hg => Or.inl hg)⟩
set_option maxHeartbeats 1000000 in
set_option maxRecDepth 100000 in
theorem bstep_any (w : World) (p : Nat) (rg : List UInt8) (n : Nat) (fl : Bool) (s : ByteArray) (h : BRow w p rg n fl) (hn : n ≤ 1000000) :
    Calls Try.prog 11 #[bptr p, .string s] w fun e w' => e = .returned (.int .u8 (Bz.sg (Bz.wire s.data.toList != fl))) ∧
      BRow w' p (rg.set (n % 4000) (bsg (Bz.wire s.data.toList != fl))) (n + 1) false ∧ Kept (· = p) w w' := by
  have HS := strongest_any s
  generalize Bz.wire s.data.toList = b at HS ⊢
  have c1 := h.cn
  have c2 := h.cf
  have f1 := h.fz 4000
  have f2 := h.fz 4001
  have hk : n % 4000 < 4000 := Nat.mod_lt _ (by omega)
  have e1 : (n : Int).tmod 4000 = ((n % 4000 : Nat) : Int) := by rw [Int.tmod_eq_emod_of_nonneg (by omega)]; simp
  generalize n % 4000 = k at hk e1 ⊢
  have HR : Hid (BRow w p rg n fl) := h
  clear h
  have x0 : bits BinOp.xor IntKind.u8 (Bz.sg false) 1 = Bz.sg true := by kernel_rfl
  have x1 : bits BinOp.xor IntKind.u8 (Bz.sg true) 1 = Bz.sg false := by kernel_rfl
  cases b <;> cases fl
  all_goals
    go_enter Try.func11, Try.ntmps11
    go_wp2_with (go_at_call 14; refine (HS _).mono ?_; rintro e w' ⟨rfl, hw⟩; rw [hw]; clear hw)
    refine Lw.region_tail 9 (by kernel_rfl) (by kernel_rfl) ?_
    intro w1 hw1
    have HR1 : Hid (BRow w1 p rg n false) := by subst hw1; exact (HR.out.setF false).drew
    have HK1 : Hid (Kept (· = p) w w1) := by subst hw1; exact Kept.trans (F := (· = p)) (G := (· = p)) (Kept.set _ _ _ rfl) (Kept.drew _ _) (fun g hg => Or.inl hg)
    clear hw1 HR c1 c2 f1 f2
    have c1 := HR1.out.cn
    have f1 := HR1.out.fz 4000
    obtain ⟨x, c3⟩ := HR1.out.ck k hk
    have f3 := HR1.out.fz k
    simp only [List.take_succ_cons, List.take_zero, List.drop_succ_cons, List.drop_zero]
    repeat (first | still_step)
    refine wpStill_nil ?_
    go_wp2
    go_ret
    exact ⟨rfl, bstep_end _ HR1.out hk HK1.out⟩
end Go.Proofs.Ythblfldnlfopcaa
