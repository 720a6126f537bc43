/- A wire on which 0 wins: what its methods are said to do, whatever holds its bits; of one wire and of two that are apart. -/
import Derived.Test.YthkaekpoicodeaaGreatDoorJ0
import Derived.Test.YthkaekpoicodeaaGreatDoorU1
import Derived.Test.YthkaekpoicodeaaGreatDoorU2
import Derived.Lib.Bytealg
import Derived.Lib.IndexLaws
import Derived.Laws.StandIn
import Derived.Deep.WholeRow
namespace Go.Proofs.YthkaekpoicodeaaGreatDoor
set_option linter.unusedVariables false
open Go.RowKit
def Bz.wire (l : List UInt8) : Bool := l.all (fun c => c != 48)
def Bz.last (bs : List Bool) : List Bool := bs.drop (bs.length - 4000)
def Bz.sg (b : Bool) : Int := if b then 49 else 48
structure BusSpec (At : World → Nat → (Nat → Prop) → List Bool → Bool → Prop) : Prop where
  on : ∀ {w w' : World} {p : Nat} {F : Nat → Prop} {bs : List Bool} {fl : Bool}, At w p F bs fl → (∀ g, F g → w'.heap[g]? = w.heap[g]?) → At w' p F bs fl
  lt : ∀ {w : World} {p : Nat} {F : Nat → Prop} {bs : List Bool} {fl : Bool}, At w p F bs fl → ∀ g, F g → g < w.heap.size
  new : ∀ w, Calls Tryz.prog 19 #[] w fun e w' => ∃ p F, e = .returned (bptr p) ∧ At w' p F [] false ∧ (∀ g, F g → w.heap.size ≤ g) ∧ Below w.heap.size w w'
  step : ∀ (w : World) (p : Nat) (F : Nat → Prop) (bs : List Bool) (fl : Bool) (s : ByteArray), At w p F bs fl → bs.length ≤ 1000000 → s.size ≤ 1048576 →
    Calls Tryz.prog 27 #[bptr p, .string s] w fun e w' => e = .returned (.int .u8 (Bz.sg (Bz.wire s.data.toList != fl))) ∧ ∃ F', At w' p F' (bs ++ [Bz.wire s.data.toList != fl]) false ∧ (∀ g, F' g → F g ∨ w.heap.size ≤ g) ∧ Kept F w w'
  flip : ∀ (w : World) (p : Nat) (F : Nat → Prop) (bs : List Bool) (fl : Bool), At w p F bs fl →
    Calls Tryz.prog 26 #[bptr p] w fun e w' => e = .returned (.tuple #[]) ∧ ∃ F', At w' p F' bs true ∧ (∀ g, F' g → F g ∨ w.heap.size ≤ g) ∧ Kept F w w'
  trace : ∀ (w : World) (p : Nat) (F : Nat → Prop) (bs : List Bool) (fl : Bool), At w p F bs fl → bs.length ≤ 1000000 →
    Calls Tryz.prog 17 #[bptr p] w fun e w' => e = .returned (.string ⟨(Bm.row (Bz.last bs)).toArray⟩) ∧ Below w.heap.size w w'
  copy : ∀ (w : World) (p : Nat) (F : Nat → Prop) (bs : List Bool) (fl : Bool), At w p F bs fl → bs.length ≤ 1000000 →
    Calls Tryz.prog 34 #[bptr p] w fun e w' => ∃ q G, e = .returned (bptr q) ∧ At w' q G bs fl ∧ (∀ g, G g → w.heap.size ≤ g) ∧ Below w.heap.size w w'
variable {At : World → Nat → (Nat → Prop) → List Bool → Bool → Prop}
/-- One wire, all of it from block B on. -/
def Own (At : World → Nat → (Nat → Prop) → List Bool → Bool → Prop) (B : Nat) (w : World) (p : Nat) (bs : List Bool) (fl : Bool) : Prop := ∃ F, At w p F bs fl ∧ ∀ g, F g → B ≤ g
/-- Two wires that are apart. -/
def Two (At : World → Nat → (Nat → Prop) → List Bool → Bool → Prop) (B : Nat) (w : World) (p : Nat) (bs : List Bool) (fl : Bool) (q : Nat) (cs : List Bool) (gl : Bool) : Prop :=
  ∃ F G, At w p F bs fl ∧ At w q G cs gl ∧ (∀ g, F g → ¬ G g) ∧ (∀ g, F g → B ≤ g) ∧ (∀ g, G g → B ≤ g)
theorem Own.on (S : BusSpec At) {B : Nat} {w w' : World} {p : Nat} {bs : List Bool} {fl : Bool} (h : Own At B w p bs fl) (hb : Below w.heap.size w w') : Own At B w' p bs fl := by
  obtain ⟨F, hA, hF⟩ := h
  exact ⟨F, S.on hA (fun g hg => hb.block g (S.lt hA g hg)), hF⟩
theorem Two.on (S : BusSpec At) {B : Nat} {w w' : World} {p q : Nat} {bs cs : List Bool} {fl gl : Bool} (h : Two At B w p bs fl q cs gl) (hb : Below w.heap.size w w') : Two At B w' p bs fl q cs gl := by
  obtain ⟨F, G, hA, hC, hd, hF, hG⟩ := h
  exact ⟨F, G, S.on hA (fun g hg => hb.block g (S.lt hA g hg)), S.on hC (fun g hg => hb.block g (S.lt hC g hg)), hd, hF, hG⟩
theorem Two.fst {B : Nat} {w : World} {p q : Nat} {bs cs : List Bool} {fl gl : Bool} (h : Two At B w p bs fl q cs gl) : Own At B w p bs fl := by
  obtain ⟨F, G, hA, hC, hd, hF, hG⟩ := h; exact ⟨F, hA, hF⟩
theorem Two.swap {B : Nat} {w : World} {p q : Nat} {bs cs : List Bool} {fl gl : Bool} (h : Two At B w p bs fl q cs gl) : Two At B w q cs gl p bs fl := by
  obtain ⟨F, G, hA, hC, hd, hF, hG⟩ := h; exact ⟨G, F, hC, hA, fun g hg hf => hd g hf hg, hG, hF⟩
end Go.Proofs.YthkaekpoicodeaaGreatDoor
/- Package bus, over the landed code: strongest (whether a 0 is driven). -/
namespace Go.Proofs.YthkaekpoicodeaaGreatDoor
open Go.RowKit
set_option linter.unusedVariables false
set_option maxHeartbeats 1000000 in
set_option maxRecDepth 100000 in
theorem idxLite_any (s : ByteArray) (c : Int) (w : World) :
    Calls Tryz.prog 86 #[.string s, .int .u8 c] w fun e w' => e = .returned (.int .i64 (firstIdx s c.toNat.toUInt8)) ∧ w' = w := by
  go_enter Tryz.func86, Tryz.ntmps86
  go_wp2
  rw [run_callFunc_indexByte Tryz.func107 (by kernel_rfl) (by kernel_rfl) (by kernel_rfl) (by kernel_rfl), run_indexByte_string]
  simp only [Result.andThen]
  rw [Oper.upon_value]
  go_wp2
  go_ret
  exact ⟨rfl, rfl⟩
set_option maxHeartbeats 1000000 in
set_option maxRecDepth 100000 in
theorem idx_any (s : ByteArray) (c : Int) (w : World) :
    Calls Tryz.prog 54 #[.string s, .int .u8 c] w fun e w' => e = .returned (.int .i64 (firstIdx s c.toNat.toUInt8)) ∧ w' = w := by
  go_enter Tryz.func54, Tryz.ntmps54
  go_wp2_with (go_at_call 86; refine (idxLite_any _ _ _).mono ?_; rintro e w' ⟨rfl, rfl⟩)
  go_ret
  exact ⟨rfl, rfl⟩
theorem first_wire (s : ByteArray) : decide (firstIdx s 48 ≥ 0) = !Bz.wire s.data.toList := by
  unfold firstIdx Bz.wire
  cases h : (List.range s.size).find? (fun i => s[i]! == 48) with
  | none =>
    rw [List.find?_eq_none] at h
    have : s.data.toList.all (fun c => c != 48) = true := by
      rw [List.all_eq_true]
      intro x hx
      obtain ⟨i, hi, rfl⟩ := List.mem_iff_getElem.1 hx
      have hi' : i < s.size := by simpa using hi
      have := h i (List.mem_range.2 hi')
      rw [getElem!_pos s i hi'] at this
      have e : s[i] = s.data.toList[i] := by simp; rfl
      rw [← e]
      simpa using this
    rw [this]; rfl
  | some i =>
    have h1 := List.find?_some h
    have h2 := List.mem_range.1 (List.mem_of_find?_eq_some h)
    have : s.data.toList.all (fun c => c != 48) = false := by
      rw [List.all_eq_false]
      refine ⟨s[i], ?_, ?_⟩
      · have e : s[i] = s.data.toList[i]'(by simpa using h2) := by simp; rfl
        rw [e]; exact List.getElem_mem _
      · rw [getElem!_pos s i h2] at h1
        simpa using h1
    rw [this]; simp
set_option maxHeartbeats 1000000 in
set_option maxRecDepth 100000 in
theorem strongest_any (s : ByteArray) (w : World) :
    Calls Tryz.prog 39 #[.string s] w fun e w' => e = .returned (.int .u8 (Bz.sg (Bz.wire s.data.toList))) ∧ w' = w := by
  have hf := first_wire s
  generalize Bz.wire s.data.toList = b at hf ⊢
  have hf' : decide (firstIdx s (Int.toNat 48).toUInt8 ≥ 0) = !b := hf
  go_enter Tryz.func39, Tryz.ntmps39
  cases b
  all_goals
    go_wp2_with (go_at_call 54; refine (idx_any _ _ _).mono ?_; rintro e w' ⟨rfl, rfl⟩)
    go_ret
    exact ⟨rfl, rfl⟩
end Go.Proofs.YthkaekpoicodeaaGreatDoor
/- Package bus, over the landed code: where a wire's bits lie; New, Flip, Len, Copy, Step. -/
namespace Go.Proofs.YthkaekpoicodeaaGreatDoor
open Go.RowKit
set_option linter.unusedVariables false
/-- The wire's cells: 4000 bytes, the count, whether a turned bit is waited for. -/
def bcs (rg : List UInt8) (n : Nat) (fl : Bool) : Array Value := (Bm.cellsOf rg ++ [Value.int .i64 (n : Int), Value.bool fl]).toArray
def BRow (w : World) (p : Nat) (rg : List UInt8) (n : Nat) (fl : Bool) : Prop := w.heap[p]? = some (.cells (bcs rg n fl) 82 (0, 0)) ∧ rg.length = 4000
theorem bcs_size {rg : List UInt8} (n : Nat) (fl : Bool) (h : rg.length = 4000) : (bcs rg n fl).size = 4002 := by simp [bcs, Bm.cellsOf, h]
theorem bcs_n {rg : List UInt8} (n : Nat) (fl : Bool) (h : rg.length = 4000) : (bcs rg n fl)[4000]? = some (.int .i64 n) := by simp [bcs, Bm.cellsOf, h]
theorem bcs_fl {rg : List UInt8} (n : Nat) (fl : Bool) (h : rg.length = 4000) : (bcs rg n fl)[4001]? = some (.bool fl) := by simp [bcs, Bm.cellsOf, h]
theorem bcs_set_n {rg : List UInt8} (n : Nat) (fl : Bool) (m : Nat) (h : rg.length = 4000) : (bcs rg n fl).setIfInBounds 4000 (.int .i64 (m : Int)) = bcs rg m fl := by
  simp [bcs, Bm.cellsOf, h]
theorem bcs_set_fl {rg : List UInt8} (n : Nat) (fl g : Bool) (h : rg.length = 4000) : (bcs rg n fl).setIfInBounds 4001 (.bool g) = bcs rg n g := by
  simp [bcs, Bm.cellsOf, h]
theorem bcs_set {rg : List UInt8} (n : Nat) (fl : Bool) (k : Nat) (c : UInt8) (h : rg.length = 4000) (hk : k < 4000) : (bcs rg n fl).setIfInBounds k (.int .u8 (c.toNat : Int)) = bcs (rg.set k c) n fl := by
  simp [bcs, Bm.cellsOf, h, hk, List.map_set]
theorem BRow.lt {w : World} {p : Nat} {rg : List UInt8} {n : Nat} {fl : Bool} (h : BRow w p rg n fl) : p < w.heap.size := (Array.getElem?_eq_some_iff.1 h.1).1
theorem BRow.cn {w : World} {p : Nat} {rg : List UInt8} {n : Nat} {fl : Bool} (h : BRow w p rg n fl) : w.cell? ⟨p, 4000, none⟩ = some (.int .i64 n) := by rw [cell_of_row _ _ _ _ _ _ h.1]; exact bcs_n n fl h.2
theorem BRow.cf {w : World} {p : Nat} {rg : List UInt8} {n : Nat} {fl : Bool} (h : BRow w p rg n fl) : w.cell? ⟨p, 4001, none⟩ = some (.bool fl) := by rw [cell_of_row _ _ _ _ _ _ h.1]; exact bcs_fl n fl h.2
theorem BRow.ck {w : World} {p : Nat} {rg : List UInt8} {n : Nat} {fl : Bool} (h : BRow w p rg n fl) (k : Nat) (hk : k < 4000) : ∃ c, w.cell? ⟨p, k, none⟩ = some (.int .u8 c) := by
  have hk' : k < rg.length := by rw [h.2]; exact hk
  refine ⟨(rg[k].toNat : Int), ?_⟩
  rw [cell_of_row _ _ _ _ _ _ h.1]; simp [bcs, Bm.cellsOf, List.getElem?_append, hk']
theorem BRow.fz {w : World} {p : Nat} {rg : List UInt8} {n : Nat} {fl : Bool} (h : BRow w p rg n fl) (k : Nat) : w.frozen? ⟨p, k, none⟩ = false := frozen_of_row _ _ k _ _ h.1
theorem BRow.setN {w : World} {p : Nat} {rg : List UInt8} {n : Nat} {fl : Bool} (h : BRow w p rg n fl) (m : Nat) : BRow (w.setCell ⟨p, 4000, none⟩ (.int .i64 (m : Int))) p rg m fl := by
  refine ⟨?_, h.2⟩; rw [← bcs_set_n n fl m h.2]; exact heap_setCell_same _ _ _ _ _ _ h.1
theorem BRow.setF {w : World} {p : Nat} {rg : List UInt8} {n : Nat} {fl : Bool} (h : BRow w p rg n fl) (g : Bool) : BRow (w.setCell ⟨p, 4001, none⟩ (.bool g)) p rg n g := by
  refine ⟨?_, h.2⟩; rw [← bcs_set_fl n fl g h.2]; exact heap_setCell_same _ _ _ _ _ _ h.1
theorem BRow.setK {w : World} {p : Nat} {rg : List UInt8} {n : Nat} {fl : Bool} (h : BRow w p rg n fl) (k : Nat) (hk : k < 4000) (c : UInt8) : BRow (w.setCell ⟨p, k, none⟩ (.int .u8 (c.toNat : Int))) p (rg.set k c) n fl := by
  refine ⟨?_, by simpa using h.2⟩; rw [← bcs_set n fl k c h.2 hk]; exact heap_setCell_same _ _ _ _ _ _ h.1
set_option maxRecDepth 100000 in
theorem bzero : (Tryz.prog.info? 82).map (fun i => (i.zero, i.size)) = some (some (.agg (bcs (List.replicate 4000 0) 0 false)), 4002) := by kernel_rfl
theorem brep : (List.replicate 4000 (0 : UInt8)).length = 4000 := List.length_replicate
set_option maxHeartbeats 1000000 in
set_option maxRecDepth 100000 in
theorem bnew_any (w : World) :
    Calls Tryz.prog 19 #[] w fun e w' => e = .returned (bptr w.heap.size) ∧ BRow w' w.heap.size (List.replicate 4000 0) 0 false ∧ Below w.heap.size w w' := by
  have hz := (zero_of_info bzero).1
  have hl := brep
  generalize List.replicate 4000 (0 : UInt8) = rg at hz hl ⊢
  generalize hc : bcs rg 0 false = cs at hz
  go_enter Tryz.func19, Tryz.ntmps19
  go_wp2
  go_ret
  exact ⟨rfl, ⟨hc ▸ heap_alloc_last w _, hl⟩, (Below.refl _ _).alloc (by omega) _⟩
set_option maxHeartbeats 1000000 in
set_option maxRecDepth 100000 in
theorem bflip_any (w : World) (p : Nat) (rg : List UInt8) (n : Nat) (fl : Bool) (h : BRow w p rg n fl) :
    Calls Tryz.prog 26 #[bptr p] w fun e w' => e = .returned (.tuple #[]) ∧ w' = w.setCell ⟨p, 4001, none⟩ (.bool true) := by
  have c1 := h.cf
  have f1 := h.fz 4001
  clear h
  go_enter Tryz.func26, Tryz.ntmps26
  go_wp2
  go_end0
  exact ⟨rfl, rfl⟩
end Go.Proofs.YthkaekpoicodeaaGreatDoor
/- Package bus, over the landed code: Copy, Step. -/
namespace Go.Proofs.YthkaekpoicodeaaGreatDoor
open Go.RowKit
set_option linter.unusedVariables false
theorem binfo : (Tryz.prog.info? 82).map (·.size) = some 4002 := by kernel_rfl
theorem bcs_one (rg : List UInt8) (n : Nat) (fl : Bool) : (bcs rg n fl).all (·.oneCell') = true := by
  simp [bcs, Bm.cellsOf, Value.oneCell']
set_option maxHeartbeats 1000000 in
set_option maxRecDepth 100000 in
theorem bcopy_any (w : World) (p : Nat) (rg : List UInt8) (n : Nat) (fl : Bool) (h : BRow w p rg n fl) :
    Calls Tryz.prog 34 #[bptr p] w fun e w' => e = .returned (bptr w.heap.size) ∧ BRow w' w.heap.size rg n fl ∧ Below w.heap.size w w' := by
  have hz := (zero_of_info bzero).1
  have hl := brep
  have Hs : Hid ((Tryz.prog.info? 82).map (·.size) = some (bcs rg n fl).size) := binfo.trans (by rw [bcs_size n fl h.2])
  have Ho : Hid ((bcs (List.replicate 4000 0) 0 false).size = (bcs rg n fl).size) := by show _ = _; rw [bcs_size 0 false hl, bcs_size n fl h.2]
  have H1 : Hid ((bcs rg n fl).all (·.oneCell') = true) := bcs_one rg n fl
  have HR : Hid (BRow w p rg n fl) := h
  have HH : Hid (w.heap[p]? = some (.cells (bcs rg n fl) 82 (0, 0))) := h.1
  clear h hl
  generalize hcz : bcs (List.replicate 4000 0) 0 false = cz at hz Ho
  clear hcz
  generalize hc : bcs rg n fl = cs at Hs Ho H1 HH
  go_enter Tryz.func34, Tryz.ntmps34
  go_wp2_with (first | (refine wpList_load_row (P := Tryz.prog) rfl 82 (.tmp 5) rfl p rfl 82 _ (0, 0) _ HH.out Tryz.underlying82 rfl Hs.out ?_) | (refine Lw.wpList_store_rowB (P := Tryz.prog) rfl 82 (.tmp 3) (.tmp 6) rfl w.heap.size cs rfl rfl 82 _ (heap_alloc_new _ _) Hs.out Ho.out H1.out w.heap.size w ((Below.refl _ _).alloc (Nat.le_refl _) _) (Nat.le_refl _) ?_; intro w2 HV HO HZ2 hb3))
  go_ret
  exact ⟨rfl, ⟨by rw [hc]; exact HV.out, HR.out.2⟩, hb3⟩
def bsg (b : Bool) : UInt8 := if b then 49 else 48
theorem bsg_int (b : Bool) : ((bsg b).toNat : Int) = Bz.sg b := by cases b <;> rfl
theorem BRow.drew {w : World} {p : Nat} {rg : List UInt8} {n : Nat} {fl : Bool} (h : BRow w p rg n fl) : BRow w.drew p rg n fl := h
theorem bstep_end {w w1 : World} {p : Nat} {rg : List UInt8} {n k : Nat} (b : Bool) (h : BRow w1 p rg n false) (hk : k < 4000) (hK : Kept (· = p) w w1) :
    BRow ((w1.setCell ⟨p, k, none⟩ (.int .u8 (Bz.sg b))).setCell ⟨p, 4000, none⟩ (.int .i64 ((n : Int) + 1))) p (rg.set k (bsg b)) (n + 1) false ∧ Kept (· = p) w ((w1.setCell ⟨p, k, none⟩ (.int .u8 (Bz.sg b))).setCell ⟨p, 4000, none⟩ (.int .i64 ((n : Int) + 1))) := by
  have h1 := (h.setK k hk (bsg b)).setN (n + 1)
  rw [bsg_int, Int.natCast_add] at h1
  exact ⟨h1, Kept.trans (F := (· = p)) (G := (· = p)) (Kept.trans (F := (· = p)) (G := (· = p)) hK (Kept.set _ _ _ rfl) (fun g hg => Or.inl hg)) (Kept.set _ _ _ rfl) (fun g hg => Or.inl hg)⟩
set_option maxHeartbeats 1000000 in
set_option maxRecDepth 100000 in
theorem bstep_any (w : World) (p : Nat) (rg : List UInt8) (n : Nat) (fl : Bool) (s : ByteArray) (h : BRow w p rg n fl) (hn : n ≤ 1000000) :
    Calls Tryz.prog 27 #[bptr p, .string s] w fun e w' => e = .returned (.int .u8 (Bz.sg (Bz.wire s.data.toList != fl))) ∧
      BRow w' p (rg.set (n % 4000) (bsg (Bz.wire s.data.toList != fl))) (n + 1) false ∧ Kept (· = p) w w' := by
  have HS := strongest_any s
  generalize Bz.wire s.data.toList = b at HS ⊢
  have c1 := h.cn
  have c2 := h.cf
  have f1 := h.fz 4000
  have f2 := h.fz 4001
  have hk : n % 4000 < 4000 := Nat.mod_lt _ (by omega)
  have e1 : (n : Int).tmod 4000 = ((n % 4000 : Nat) : Int) := by rw [Int.tmod_eq_emod_of_nonneg (by omega)]; simp
  generalize n % 4000 = k at hk e1 ⊢
  have HR : Hid (BRow w p rg n fl) := h
  clear h
  have x0 : bits BinOp.xor IntKind.u8 (Bz.sg false) 1 = Bz.sg true := by kernel_rfl
  have x1 : bits BinOp.xor IntKind.u8 (Bz.sg true) 1 = Bz.sg false := by kernel_rfl
  cases b <;> cases fl
  all_goals
    go_enter Tryz.func27, Tryz.ntmps27
    go_wp2_with (go_at_call 39; refine (HS _).mono ?_; rintro e w' ⟨rfl, hw⟩; rw [hw]; clear hw)
    refine Lw.region_tail 9 (by kernel_rfl) (by kernel_rfl) ?_
    intro w1 hw1
    have HR1 : Hid (BRow w1 p rg n false) := by subst hw1; exact (HR.out.setF false).drew
    have HK1 : Hid (Kept (· = p) w w1) := by subst hw1; exact Kept.trans (F := (· = p)) (G := (· = p)) (Kept.set _ _ _ rfl) (Kept.drew _ _) (fun g hg => Or.inl hg)
    clear hw1 HR c1 c2 f1 f2
    have c1 := HR1.out.cn
    have f1 := HR1.out.fz 4000
    obtain ⟨x, c3⟩ := HR1.out.ck k hk
    have f3 := HR1.out.fz k
    simp only [List.take_succ_cons, List.take_zero, List.drop_succ_cons, List.drop_zero]
    repeat (first | still_step)
    refine wpStill_nil ?_
    go_wp2
    go_ret
    exact ⟨rfl, bstep_end _ HR1.out hk HK1.out⟩
end Go.Proofs.YthkaekpoicodeaaGreatDoor
/- Package bus, over the landed code: Trace. -/
namespace Go.Proofs.YthkaekpoicodeaaGreatDoor
open Go.RowKit
set_option linter.unusedVariables false
theorem binfo1 : (Tryz.prog.info? 5).map (·.size) = some 1 := by kernel_rfl
theorem binfo3 : (Tryz.prog.info? 5).map (fun i => (i.zero, i.size, i.bytes)) = some (some (.int .u8 0), 1, 1) := by kernel_rfl
/-- x[l:] of a slice of one-cell elements, to its end, too. -/
theorem Lw.run_sliceEnd {P : Program} (t e : TypeId) (ht : P.underlying t = some (.slice e)) (hz : (P.info? e).map (·.size) = some 1) (g len : Nat) (x : Int) (l : Nat) (hx : x = (l : Int)) (hl : l ≤ len) :
    ∃ dp, (∀ W, (Instr.slice t (.slice (some ⟨g, 0, none⟩) len len) (some (.int .i64 x)) none none).run P W = .ok (.slice dp (len - l) (len - l)) W) ∧ (0 < len - l → dp = some ⟨g, l, none⟩) := by
  have ee : P.elem t = e := by simp [Program.elem, ht]
  have ht' : P.underlying t = some (.slice (P.elem t)) := by rw [ee]; exact ht
  subst hx
  refine ⟨if len = l then some ⟨g, 0, none⟩ else some ⟨g, l, none⟩, fun W => ?_, fun h => if_neg (by omega)⟩
  rw [run_slice_l (P := P) W t (some ⟨g, 0, none⟩) len len ht' .i64 (l : Int) (by omega) (by omega)]
  rw [ee]
  cases hq : P.info? e with
  | none => simp [hq] at hz
  | some i =>
    have hs : i.size = 1 := by simpa [hq] using hz
    by_cases hc : len = l
    · simp [sizeOf, typeInfo, hq, hs, sliced, hc]
    · simp [sizeOf, typeInfo, hq, hs, sliced, hc, Addr.add]
      intro h; exact h.symm
/-- x[:] of a whole array of one-cell elements that lies in a block. -/
theorem Lw.run_sliceAll {P : Program} (t e : TypeId) (n : Nat) (ht : P.underlying t = some (.array n e)) (hz : (P.info? e).map (·.size) = some 1) (g : Nat) (W : World) :
    (Instr.sliceAt t (.pointer (some ⟨g, 0, none⟩)) none none none).run P W = .ok (.slice (some ⟨g, 0, none⟩) n n) W := by
  have ea : P.arrayLen t = n := by simp [Program.arrayLen, ht]
  have ee : P.elem t = e := by simp [Program.elem, ht]
  have ht' : P.underlying t = some (.array (P.arrayLen t) (P.elem t)) := by rw [ea, ee]; exact ht
  rw [run_sliceAt_array_all (P := P) W t ⟨g, 0, none⟩ ht']
  rw [ea, ee]
  cases hq : P.info? e with
  | none => simp [hq] at hz
  | some i =>
    have hs : i.size = 1 := by simpa [hq] using hz
    simp [sizeOf, typeInfo, hq, hs, slicedAt, Addr.add]
theorem bring_cell {w : World} {p : Nat} {rg : List UInt8} {n : Nat} {fl : Bool} (h : BRow w p rg n fl) (e m : Nat) (j : Nat) (v : Value) (hv : (Bm.cellsOf ((rg.drop e).take m))[j]? = some v) : w.cell? ((⟨p, e, none⟩ : Addr).add j) = some v := by
  have hadd : (⟨p, e, none⟩ : Addr).add j = ⟨p, e + j, none⟩ := by unfold Addr.add; split <;> simp_all
  rw [hadd, cell_of_row _ _ _ _ _ _ h.1]
  have hj : j < ((rg.drop e).take m).length := by
    have := (List.getElem?_eq_some_iff.1 hv).1; simpa [Bm.cellsOf] using this
  simp only [List.length_take, List.length_drop] at hj
  have hj2 : e + j < rg.length := by omega
  have hj3 : e + j < (Bm.cellsOf rg).length := by simpa [Bm.cellsOf] using hj2
  unfold bcs
  rw [List.getElem?_toArray, List.getElem?_append_left hj3]
  rw [← hv]
  simp [Bm.cellsOf, show j < m by omega]
theorem bsplice {L A : Nat} (X Y : List UInt8) (hA : X.length = A) (hY : Y.length = L - A) (hle : A ≤ L) : splice (splice (Bm.fillV [] L) 0 (Bm.cellsOf X)) A (Bm.cellsOf Y) = Bm.cellsOf (X ++ Y) := by
  have h0 : (Bm.fillV [] L).length = L := by simp [Bm.fillV, Bm.cellsOf]
  have hX : (Bm.cellsOf X).length = A := by simp [Bm.cellsOf, hA]
  have hYl : (Bm.cellsOf Y).length = L - A := by simp [Bm.cellsOf, hY]
  unfold splice
  simp only [List.take_zero, List.nil_append, hX, hYl, Nat.zero_add]
  rw [List.take_left' hX, List.drop_eq_nil_of_le (by simp [hX, h0])]
  simp [Bm.cellsOf]
set_option maxHeartbeats 2000000 in
set_option maxRecDepth 100000 in
theorem btrace_any (w : World) (p : Nat) (rg : List UInt8) (n : Nat) (fl : Bool) (h : BRow w p rg n fl) (hn : n ≤ 1000000) (L E A : Nat) (hL : L = min n 4000) (hE : E = (n - L) % 4000) (hA : A = min (4000 - E) L) :
    Calls Tryz.prog 17 #[bptr p] w fun e w' => e = .returned (.string ⟨((rg.drop E).take A ++ (rg.drop 0).take (L - A)).toArray⟩) ∧ Below w.heap.size w w' := by
  have c1 := h.cn
  have HA : Hid (∀ o, BRow (w.alloc o) p rg n fl) := fun o => ⟨(Below.heap_alloc _ _ _ h.lt).trans h.1, h.2⟩
  have c2 : ∀ o, (w.alloc o).cell? ⟨p, 4000, none⟩ = some (.int .i64 n) := fun o => (HA.out o).cn
  have hLn : L ≤ n := by omega
  have hE4 : E < 4000 := by omega
  have hL4 : L ≤ 4000 := by omega
  have hAL : A ≤ L := by omega
  have e1 : min n 4000 = L := hL.symm
  have e3 : min (n : Int) 4000 = (L : Int) := by omega
  have e2 : ((n : Int) - (L : Int)).tmod 4000 = (E : Int) := by rw [Int.tmod_eq_emod_of_nonneg (by omega)]; omega
  have hmk := fun W => Lw.run_makeBytes (P := Tryz.prog) 74 5 Tryz.underlying74 binfo3 (L : Int) L rfl (by omega) W
  have hsl := fun W => Lw.run_sliceArr (P := Tryz.prog) 80 5 4000 E Tryz.underlying80 binfo1 p (E : Int) rfl hE4 W
  have hal := fun W => Lw.run_sliceAll (P := Tryz.prog) 80 5 4000 Tryz.underlying80 binfo1 p W
  obtain ⟨dp, hse, hdp⟩ := Lw.run_sliceEnd (P := Tryz.prog) 74 5 Tryz.underlying74 binfo1 w.heap.size L (A : Int) A rfl hAL
  have HR : Hid (BRow w p rg n fl) := h
  have HL : Hid (rg.length = 4000) := h.2
  obtain ⟨X, hX⟩ : ∃ X, X = (rg.drop E).take A := ⟨_, rfl⟩
  obtain ⟨Y, hY⟩ : ∃ Y, Y = (rg.drop 0).take (L - A) := ⟨_, rfl⟩
  have HX : Hid (X.length = A) := by show _ = _; rw [hX]; simp [h.2]; omega
  have HY : Hid (Y.length = L - A) := by show _ = _; rw [hY]; simp [h.2]; omega
  rw [← hX, ← hY]
  have HXe : Hid (X = (rg.drop E).take A) := hX
  have HYe : Hid (Y = (rg.drop 0).take (L - A)) := hY
  have HN : Hid ((Bm.cellsOf X).length = Nat.min (4000 - E) L) := by show _ = _; rw [Bm.length_cellsOf, HX.out, hA]
  clear h hL hE hA hX hY
  go_enter Tryz.func17, Tryz.ntmps17
  have hXL : (Bm.cellsOf X).length = A := by rw [Bm.length_cellsOf, HX.out]
  have HF : Hid (0 + (Bm.cellsOf X).length ≤ (Bm.fillV [] L).length) := by show _ ≤ _; rw [Bm.length_cellsOf, HX.out]; simp [Bm.fillV, Bm.cellsOf, hAL]
  have HC : Hid (∀ o j v, (Bm.cellsOf X)[j]? = some v → (w.alloc o).cell? ((⟨p, E, none⟩ : Addr).add j) = some v) := fun o j v hv => bring_cell (HA.out o) E A j v (HXe.out ▸ hv)
  go_wp2_with (refine wpList_copy_splice (P := Tryz.prog) rfl (.tmp 20) (.tmp 25) 74 74 rfl 5 Tryz.underlying74 binfo1 (some ⟨w.heap.size, 0, none⟩) (some ⟨p, E, none⟩) L L (4000 - E) (4000 - E) rfl rfl w.heap.size 0 (Bm.fillV [] L) 5 (heap_alloc_new _ _) (Bm.cellsOf X) HN.out (fun _ => ⟨rfl, _, rfl, HC.out _⟩) HF.out (Bm.oneCell_cellsOf _) w.heap.size w ((Below.refl _ _).alloc (Nat.le_refl _) _) (Nat.le_refl _) ?_; intro w2 HG2 hb2)
  refine Lw.region_tail 7 (by kernel_rfl) (by kernel_rfl) ?_
  intro w3 hw3
  have hb3 : Below w.heap.size w w3 := hw3 ▸ hb2.drew
  have HG3 : Hid (w3.heap[w.heap.size]? = some (.cells (splice (Bm.fillV [] L) 0 (Bm.cellsOf X)).toArray 5 (0, 0))) := by subst hw3; exact HG2.out
  have HR3 : BRow w3 p rg n fl := ⟨(hb3.block p HR.out.lt).trans HR.out.1, HR.out.2⟩
  have HC3 : Hid (∀ j v, (Bm.cellsOf Y)[j]? = some v → w3.cell? ((⟨p, 0, none⟩ : Addr).add j) = some v) := fun j v hv => bring_cell HR3 0 (L - A) j v (HYe.out ▸ hv)
  have HN3 : Hid ((Bm.cellsOf Y).length = Nat.min 4000 (L - A)) := by show _ = _; rw [Bm.length_cellsOf, HY.out]; exact (Nat.min_eq_right (by omega)).symm
  have HF3 : Hid (A + (Bm.cellsOf Y).length ≤ (splice (Bm.fillV [] L) 0 (Bm.cellsOf X)).length) := by
    show _ ≤ _
    rw [length_splice _ _ _ HF.out, Bm.length_cellsOf, HY.out]; simp [Bm.fillV, Bm.cellsOf]; omega
  have HP3 : Hid (0 < (Bm.cellsOf Y).length → dp = some ⟨w.heap.size, A, none⟩ ∧ ∃ ad, some (⟨p, 0, none⟩ : Addr) = some ad ∧ ∀ j v, (Bm.cellsOf Y)[j]? = some v → w3.cell? (ad.add j) = some v) := fun h0 => ⟨hdp (by rw [Bm.length_cellsOf, HY.out] at h0; exact h0), _, rfl, HC3.out⟩
  clear hw3 HG2 hb2 HR3 hmk hsl
  simp only [List.take_succ_cons, List.take_zero, List.drop_succ_cons, List.drop_zero]
  repeat (first | still_step)
  refine wpStill_nil ?_
  go_wp2_with (refine wpList_copy_splice (P := Tryz.prog) rfl (.tmp 29) (.tmp 33) 74 74 rfl 5 Tryz.underlying74 binfo1 dp (some ⟨p, 0, none⟩) (L - A) (L - A) 4000 4000 rfl rfl w.heap.size A _ 5 HG3.out (Bm.cellsOf Y) HN3.out HP3.out HF3.out (Bm.oneCell_cellsOf _) w.heap.size w hb3 (Nat.le_refl _) ?_; intro w4 HG4 hb4)
  have HG5 : w4.heap[w.heap.size]? = some (.cells (Bm.cellsOf (X ++ Y)).toArray 5 (0, 0)) := by rw [← bsplice X Y HX.out HY.out hAL]; exact HG4.out
  have hconv := Lw.run_conv_row (P := Tryz.prog) HG5 74 5 9 Tryz.underlying74 Tryz.underlying5 Tryz.underlying9 0 L L (by rw [List.length_append, HX.out, HY.out]; omega) (X ++ Y) (by rw [List.drop_zero, List.take_of_length_le]; rw [List.length_append, HX.out, HY.out]; omega)
  clear HG4 HG5 hse hal
  rw [hconv]
  simp only [Result.andThen]
  rw [Oper.upon_value]
  go_wp2
  go_ret
  exact ⟨rfl, hb4⟩
end Go.Proofs.YthkaekpoicodeaaGreatDoor
/- Package bus, over the landed code: a wire as the laws want it. -/
namespace Go.Proofs.YthkaekpoicodeaaGreatDoor
open Go.RowKit
set_option linter.unusedVariables false
/-- The ring holds the latest bits, each at its number modulo 4000. -/
def Ring (rg : List UInt8) (bs : List Bool) : Prop := ∀ i b, bs[i]? = some b → bs.length ≤ i + 4000 → rg[i % 4000]? = some (bsg b)
theorem Ring.step {rg : List UInt8} {bs : List Bool} (h : Ring rg bs) (hl : rg.length = 4000) (b : Bool) : Ring (rg.set (bs.length % 4000) (bsg b)) (bs ++ [b]) := by
  intro i c hc hi
  have hlt : i < (bs ++ [b]).length := (List.getElem?_eq_some_iff.1 hc).1
  simp only [List.length_append, List.length_cons, List.length_nil] at hlt hi
  by_cases he : i = bs.length
  · subst he
    rw [List.getElem?_append_right (Nat.le_refl _)] at hc
    have hb : b = c := by simpa using hc
    subst hb
    rw [List.getElem?_set_self (by rw [hl]; exact Nat.mod_lt _ (by omega))]
  · rw [List.getElem?_append_left (by omega)] at hc
    rw [List.getElem?_set_ne (by omega)]
    exact h i c hc (by omega)
theorem Ring.last {rg : List UInt8} {bs : List Bool} (h : Ring rg bs) (hl : rg.length = 4000) (L E A : Nat) (hL : L = min bs.length 4000) (hE : E = (bs.length - L) % 4000) (hA : A = min (4000 - E) L) :
    (rg.drop E).take A ++ (rg.drop 0).take (L - A) = Bm.row (Bz.last bs) := by
  have hX : ((rg.drop E).take A).length = A := by simp [hl]; omega
  have hY : ((rg.drop 0).take (L - A)).length = L - A := by simp [hl]; omega
  have hB : (Bz.last bs).length = L := by unfold Bz.last; rw [List.length_drop]; omega
  apply List.ext_getElem?
  intro j
  by_cases hj : j < L
  · obtain ⟨b, hb⟩ : ∃ b, bs[bs.length - L + j]? = some b := ⟨_, List.getElem?_eq_getElem (by omega)⟩
    have hr := h _ b hb (by omega)
    have hz : (Bm.row (Bz.last bs))[j]? = some (bsg b) := by
      unfold Bm.row Bz.last
      rw [List.getElem?_map, List.getElem?_drop, show bs.length - 4000 + j = bs.length - L + j by omega, hb]
      rfl
    rw [hz, ← hr]
    by_cases ha : j < A
    · rw [List.getElem?_append_left (by omega), List.getElem?_take, if_pos ha, List.getElem?_drop, show E + j = (bs.length - L + j) % 4000 by omega]
    · rw [List.getElem?_append_right (by omega), hX, List.getElem?_take, if_pos (by omega), List.getElem?_drop, show 0 + (j - A) = (bs.length - L + j) % 4000 by omega]
  · rw [List.getElem?_eq_none (by rw [List.length_append, hX, hY]; omega), List.getElem?_eq_none (by unfold Bm.row; rw [List.length_map, hB]; omega)]
def BusAt (w : World) (p : Nat) (F : Nat → Prop) (bs : List Bool) (fl : Bool) : Prop := F = (· = p) ∧ ∃ rg, BRow w p rg bs.length fl ∧ Ring rg bs
theorem busSpec : BusSpec BusAt where
  on := by
    rintro w w' p F bs fl ⟨rfl, rg, hR, hG⟩ hk
    exact ⟨rfl, rg, ⟨(hk p rfl).trans hR.1, hR.2⟩, hG⟩
  lt := by
    rintro w p F bs fl ⟨rfl, rg, hR, hG⟩ g rfl
    exact hR.lt
  new := fun w => (bnew_any w).mono fun e w' ⟨he, hR, hb⟩ => ⟨_, (· = w.heap.size), he, ⟨rfl, _, hR, fun i b hb => by simp at hb⟩, fun g hg => by omega, hb⟩
  step := by
    rintro w p F bs fl s ⟨rfl, rg, hR, hG⟩ h1 h2
    refine (bstep_any w p rg bs.length fl s hR h1).mono fun e w' ⟨he, hR', hk⟩ => ⟨he, (· = p), ⟨rfl, _, ?_, hG.step hR.2 _⟩, fun g hg => Or.inl hg, hk⟩
    rw [List.length_append]; exact hR'
  flip := by
    rintro w p F bs fl ⟨rfl, rg, hR, hG⟩
    refine (bflip_any w p rg bs.length fl hR).mono fun e w' ⟨he, hw⟩ => ⟨he, (· = p), ?_⟩
    subst hw
    exact ⟨⟨rfl, rg, hR.setF true, hG⟩, fun g hg => Or.inl hg, Kept.set _ _ _ rfl⟩
  trace := by
    rintro w p F bs fl ⟨rfl, rg, hR, hG⟩ h1
    have hl := hG.last hR.2 _ _ _ rfl rfl rfl
    refine (btrace_any w p rg bs.length fl hR h1 _ _ _ rfl rfl rfl).mono fun e w' ⟨he, hb⟩ => ⟨?_, hb⟩
    rw [he, hl]
  copy := by
    rintro w p F bs fl ⟨rfl, rg, hR, hG⟩ h1
    exact (bcopy_any w p rg bs.length fl hR).mono fun e w' ⟨he, hR', hb⟩ => ⟨_, (· = w.heap.size), he, ⟨rfl, rg, hR', hG⟩, fun g hg => by omega, hb⟩
end Go.Proofs.YthkaekpoicodeaaGreatDoor
