/- The law's own 'turned': the opposite bits. -/
import Derived.Test.YtcgpnnmceijmjaaSl
import Derived.Test.YtcgpnnmceijmjaaSm4
namespace Go.Proofs.Ytcgpnnmceijmjaa
open Go.RowKit
theorem not_sign (b : Bool) : Bm.sign (!b) = if b then 48 else 49 := by cases b <;> rfl
set_option maxRecDepth 100000 in
set_option maxHeartbeats 1000000 in
theorem turned_any (s : ByteArray) (w : World) (hs : s.size ≤ 1048576) :
    Calls Try.prog 18 #[.string s] w fun e w' => e = .returned (.string ⟨(Bm.row ((Bm.read s.data.toList).map not)).toArray⟩) ∧ Below w.heap.size w w' := by
  obtain ⟨i0, hi, hz0, hz1, hz2⟩ := info_parts Try.infoU8
  go_enter Try.func18, Try.ntmps18
  go_wp2
  go_loopw [3, 4] (fun v i wr => ∃ k : Nat, k ≤ s.size ∧ i = .int .i64 k ∧ Hid (wr.ownsRow w.heap.size 5 1 v k (Bm.cellsOf (Bm.row ((Bm.read (s.data.toList.take k)).map not)))) ∧ Below w.heap.size w wr)
    (fun _ i _ => s.size - (intOf i).toNat)
  case atStart => exact ⟨0, Nat.zero_le _, rfl, World.ownsRow_nil _ _ _ _, Below.refl _ _⟩
  case round =>
    obtain ⟨k, hk, rfl, HO, hb⟩ := hrel
    by_cases hlt : k < s.size
    · have hbs := hb.size
      have hk1 : k + 1 ≤ maxLen := by unfold maxLen; omega
      have HS : Hid (Bm.cellsOf (Bm.row ((Bm.read (s.data.toList.take (k + 1))).map not)) = Bm.cellsOf (Bm.row ((Bm.read (s.data.toList.take k)).map not)) ++ [.int .u8 ((Bm.sign (!Bm.isOne s[k])).toNat : Int)]) := by
        show _ = _
        rw [Bm.read_take_succ s k hlt]
        simp [Bm.row, Bm.cellsOf]
      cases h1 : ((s[k].toNat : Int) == 49)
      · have HI : Hid (Bm.isOne s[k] = false) := by show _ = _; rw [← Bm.isOne_dec, h1]
        go_wp2_with (at_builtin; refine wpList_append_own _ rfl (.tmp 18) (.tmp 19) 33 rfl w.heap.size 5 i0 (.int .u8 0) 1 1 Try.underlying33 hi hz0 hz1 hz2 rfl (by decide) u3 k _ rfl (HO.out.alloc _) _ 1 1 [.int .u8 49] rfl rfl (cell_one_new _ _ _) (ints_oneCell .u8 [_]) hk1 (by omega) (by simp; omega) ?_; intro v' w1 hown' hgrow _)
        have HO' : Hid (w1.ownsRow w.heap.size 5 1 v' (k + 1) (Bm.cellsOf (Bm.row ((Bm.read (s.data.toList.take (k + 1))).map not)))) := by
          rw [HS.out, HI.out]; exact hown'
        have hb' : Below w.heap.size w w1 := (hb.alloc hbs _).grown hgrow (by simp; omega) (fun g hg => (HO.out.lt g hg).1)
        clear hown' hgrow HO hb
        go_roundw
        case rel => exact ⟨k + 1, by omega, by go_num, HO', hb'⟩
        case measure => simp [intOf]; omega
      · have HI : Hid (Bm.isOne s[k] = true) := by show _ = _; rw [← Bm.isOne_dec, h1]
        go_wp2_with (at_builtin; refine wpList_append_own _ rfl (.tmp 15) (.tmp 16) 33 rfl w.heap.size 5 i0 (.int .u8 0) 1 1 Try.underlying33 hi hz0 hz1 hz2 rfl (by decide) u3 k _ rfl (HO.out.alloc _) _ 1 1 [.int .u8 48] rfl rfl (cell_one_new _ _ _) (ints_oneCell .u8 [_]) hk1 (by omega) (by simp; omega) ?_; intro v' w1 hown' hgrow _)
        have HO' : Hid (w1.ownsRow w.heap.size 5 1 v' (k + 1) (Bm.cellsOf (Bm.row ((Bm.read (s.data.toList.take (k + 1))).map not)))) := by
          rw [HS.out, HI.out]; exact hown'
        have hb' : Below w.heap.size w w1 := (hb.alloc hbs _).grown hgrow (by simp; omega) (fun g hg => (HO.out.lt g hg).1)
        clear hown' hgrow HO hb
        go_roundw
        case rel => exact ⟨k + 1, by omega, by go_num, HO', hb'⟩
        case measure => simp [intOf]; omega
    · have hcv := conv_own HO.out
      rw [Bm.take_all s k (by omega)] at hcv
      clear HO
      go_wp2
      go_ret
      exact ⟨rfl, hb⟩
theorem turned_row (bs : List Bool) (w : World) (h : bs.length ≤ 1048576) :
    Calls Try.prog 18 #[.string ⟨(Bm.row bs).toArray⟩] w fun e w' => e = .returned (.string ⟨(Bm.row (bs.map not)).toArray⟩) ∧ Below w.heap.size w w' :=
  (turned_any _ w (by rw [size_row]; exact h)).mono fun e w' ⟨he, hw⟩ => ⟨he.trans (by rw [data_row]), hw⟩
end Go.Proofs.Ytcgpnnmceijmjaa
