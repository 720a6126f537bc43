/- What hex of package frame answers, over the program's own text. -/
import Derived.Test.YtfnbkehabadpmabDoorCv
import Derived.Test.YtfnbkehabadpmabDoorFm
import Derived.Test.YtfnbkehabadpmabDoorBm2
import Derived.Test.YtfnbkehabadpmabDoorLi
import Derived.Handy
import Derived.WalkSpells
import Derived.WalkLawsBesides
namespace Go.Proofs.YtfnbkehabadpmabDoor
open Go.RowKit
def hexRow (n k j : Nat) : List UInt8 := List.replicate (k - j) 0 ++ Fm.hexs n j
theorem length_hexRow (n k j : Nat) (h : j ≤ k) : (hexRow n k j).length = k := by simp [hexRow, Fm.length_hexs]; omega
theorem hexRow_get (n k j p : Nat) (h : k = j + p + 1) : (Bm.cellsOf (hexRow n k j))[p]? = some (.int .u8 0) := by
  subst h
  unfold Bm.cellsOf hexRow
  rw [List.getElem?_map, List.getElem?_append_left (by simp; omega), List.getElem?_replicate, if_pos (by omega)]
  rfl
theorem hexRow_set (n k j p : Nat) (h : k = j + p + 1) : (Bm.cellsOf (hexRow n k j)).toArray.setIfInBounds p (.int .u8 ((Fm.hexd (n / 16 ^ j % 16)).toNat : Int)) = (Bm.cellsOf (hexRow n k (j + 1))).toArray := by
  subst h
  unfold Bm.cellsOf hexRow
  rw [List.setIfInBounds_toArray]
  congr 1
  have e : j + p + 1 - j = p + 1 := by omega
  have e2 : j + p + 1 - (j + 1) = p := by omega
  rw [e, e2, List.replicate_succ', List.append_assoc, List.map_append, List.map_append, List.set_append_right _ _ (by simp)]
  simp [Fm.hexs]
theorem hexDigit (q : Nat) (hq : q < 16) (W : World) :
    (Instr.index 9 (.string ⟨#[48, 49, 50, 51, 52, 53, 54, 55, 56, 57, 65, 66, 67, 68, 69, 70]⟩) (.int .u32 (q : Int))).run Tryd.prog W = .ok (.int .u8 ((Fm.hexd q).toNat : Int)) W := by
  rw [run_index_string (P := Tryd.prog) W 9 _ .u32 (q : Int) Tryd.underlying9, dif_pos ⟨by omega, by show (q : Int) < 16; omega⟩]
  have key : ∀ q (h : q < 16), (#[48, 49, 50, 51, 52, 53, 54, 55, 56, 57, 65, 66, 67, 68, 69, 70] : Array UInt8)[q]'h = Fm.hexd q := by decide
  have e := key q hq
  simp only [Int.toNat_natCast]
  show Result.ok (Value.int .u8 (((#[48, 49, 50, 51, 52, 53, 54, 55, 56, 57, 65, 66, 67, 68, 69, 70] : Array UInt8)[q]'hq).toNat : Int)) W = _
  rw [e]
theorem nibble (n j : Nat) (hn : n < 4294967296) : bits .and .u32 ((n : Int) / 2 ^ (4 * j)) 15 = ((n / 16 ^ j % 16 : Nat) : Int) := by
  have e : ((n : Int) / 2 ^ (4 * j)) = ((n / 2 ^ (4 * j) : Nat) : Int) := by simp
  have e3 : n / 2 ^ (4 * j) &&& 15 = n / 2 ^ (4 * j) % 16 := Nat.and_two_pow_sub_one_eq_mod _ 4
  have hlt : n / 2 ^ (4 * j) < 4294967296 := Nat.lt_of_le_of_lt (Nat.div_le_self _ _) hn
  rw [e, show (15 : Int) = ((15 : Nat) : Int) from rfl, u32_and_nat _ _ hlt (by decide), e3, Nat.pow_mul]
set_option maxRecDepth 100000 in
set_option maxHeartbeats 1000000 in
theorem hex_any (n k : Nat) (hn : n < 4294967296) (hk : k ≤ 8) (w : World) (y z : Int) (hy : y = (n : Int)) (hz : z = (k : Int)) :
    Calls Tryd.prog 15 #[.int .u32 y, .int .i64 z] w fun e w' => e = .returned (.string ⟨(Fm.hexs n k).toArray⟩) ∧ Below w.heap.size w w' := by
  subst hy hz
  have hmk := fun W => Lw.run_makeBytes (P := Tryd.prog) 49 5 Tryd.underlying49 Tryd.infoU8 (k : Int) k rfl (by omega) W
  have H0 : Hid (Bm.fillV [] k = Bm.cellsOf (hexRow n k 0)) := by show _ = _; simp [Bm.fillV, hexRow, Fm.hexs]
  go_enter Tryd.func15, Tryd.ntmps15
  go_wp2
  go_loopw [11] (fun i wr => ∃ j : Nat, j ≤ k ∧ i = .int .i64 j ∧ Hid (wr.heap[w.heap.size]? = some (.cells (Bm.cellsOf (hexRow n k j)).toArray 5 (0, 0))) ∧ Below w.heap.size w wr) (fun i _ => k - (intOf i).toNat)
  case atStart => exact ⟨0, Nat.zero_le _, rfl, by show _ = _; rw [heap_alloc_new, H0.out], (Below.refl _ _).alloc (Nat.le_refl _) _⟩
  case round =>
    clear hmk H0
    obtain ⟨j, hj, rfl, HG, hb⟩ := hrel
    by_cases hlt : j < k
    · obtain ⟨p, hp⟩ : ∃ p, k = j + p + 1 := ⟨k - j - 1, by omega⟩
      have hpi : (k : Int) - 1 - j = (p : Int) := by omega
      have hcell : wr.cell? ⟨w.heap.size, p, none⟩ = some (.int .u8 0) := by
        rw [cell_of_row _ _ _ _ _ _ HG.out]
        simpa using hexRow_get n k j p hp
      have hfz : wr.frozen? ⟨w.heap.size, p, none⟩ = false := frozen_of_row _ _ _ _ _ HG.out
      have hnb := nibble n j hn
      have hq := Nat.mod_lt (n / 16 ^ j) (show 0 < 16 by decide)
      have hd := fun W => hexDigit (n / 16 ^ j % 16) hq W
      have HS : Hid ((wr.setCell ⟨w.heap.size, p, none⟩ (.int .u8 ((Fm.hexd (n / 16 ^ j % 16)).toNat : Int))).heap[w.heap.size]? = some (.cells (Bm.cellsOf (hexRow n k (j + 1))).toArray 5 (0, 0))) := by
        show _ = _
        rw [heap_setCell_same _ _ _ _ _ _ HG.out, hexRow_set n k j p hp]
      have hbs : Below w.heap.size w (wr.setCell ⟨w.heap.size, p, none⟩ (.int .u8 ((Fm.hexd (n / 16 ^ j % 16)).toNat : Int))) := hb.setCell (Nat.le_refl _) _
      clear HG
      generalize n / 16 ^ j % 16 = q at *
      have HP : Hid (k = j + p + 1) := hp
      clear hp
      go_wp2
      go_roundw
      case rel => exact ⟨j + 1, by omega, by go_num, HS, hbs⟩
      case measure => simp [intOf]; omega
    · obtain rfl : j = k := by omega
      have HL : (Fm.hexs n j).length = j := Fm.length_hexs n j
      have HG' : Hid (wr.heap[w.heap.size]? = some (.cells (Bm.cellsOf (Fm.hexs n j)).toArray 5 (0, 0))) := by
        show _ = _
        rw [HG.out]
        unfold hexRow
        rw [Nat.sub_self]
        rfl
      have hconv := Lw.run_conv_row (P := Tryd.prog) HG'.out 49 5 9 Tryd.underlying49 Tryd.underlying5 Tryd.underlying9 0 j j (by omega) (Fm.hexs n j) (by rw [List.drop_zero, List.take_of_length_le (by omega)])
      clear HG HL
      go_wp2
      go_ret
      exact ⟨rfl, hb⟩
end Go.Proofs.YtfnbkehabadpmabDoor
