/- What the document's own Bytes answers, over its text. -/
import Derived.Test.YtfnbkehabadpmaaDoorRo
import Derived.Test.YtfnbkehabadpmaaDoorBm5
import Derived.Test.YtfnbkehabadpmaaDoorQn
namespace Go.Proofs.YtfnbkehabadpmaaDoor
open Go.RowKit
set_option maxRecDepth 100000 in
set_option maxHeartbeats 400000 in
theorem refBytes_any (s : ByteArray) (w : World) (hs : s.size ≤ 1048576) :
    Calls Tryd.prog 39 #[.string s] w fun e w' => e = .returned (.string ⟨(Bm.bytes (Bm.read s.data.toList)).toArray⟩) ∧ Below w.heap.size w w' := by
  obtain ⟨i0, hi, hz0, hz1, hz2⟩ := info_parts Tryd.infoU8
  go_enter Tryd.func39, Tryd.ntmps39
  go_wp2
  go_loopw [3, 4] (fun v i wr => ∃ k : Nat, 8 * k ≤ s.size ∧ i = .int .i64 (8 * (k : Int)) ∧ Hid (wr.ownsRow w.heap.size 5 1 v k (Bm.cellsOf (Bm.bytesTo (Bm.read s.data.toList) k))) ∧ Below w.heap.size w wr)
    (fun _ i _ => s.size - (intOf i).toNat)
  case atStart => exact ⟨0, Nat.zero_le _, rfl, World.ownsRow_nil _ _ _ _, Below.refl _ _⟩
  case round =>
    obtain ⟨k, hk, rfl, HO, hb⟩ := hrel
    by_cases hlt : 8 * k + 8 ≤ s.size
    · have hex : (s.extract (8 * k) (8 * k + 8)).size ≤ maxLen := by
        unfold maxLen
        simp
        omega
      have hbs := hb.size
      have hk1 : k + 1 ≤ maxLen := by unfold maxLen; omega
      have HB : Hid (((Bm.num (Bm.read (List.take 8 (List.drop (8 * k) s.data.toList))) : Nat) : Int) % 256 = ((Bm.byteAt (Bm.read s.data.toList) k).toNat : Int)) := by
        show _ = _
        rw [Bm.read_window, Bm.byteAt_val]
      go_wp2_with (first | (go_at_call 38; refine (refNum_any _ _ hex).mono ?_; rintro e w' ⟨rfl, rfl⟩) | (at_builtin; refine wpList_append_own _ rfl (.tmp 12) (.tmp 20) 59 rfl w.heap.size 5 i0 (.int .u8 0) 1 1 Tryd.underlying59 hi hz0 hz1 hz2 rfl (by decide) u3 k _ rfl (HO.out.alloc _) _ 1 1 [.int .u8 (((Bm.num (Bm.read (List.take 8 (List.drop (8 * k) s.data.toList))) : Nat) : Int) % 256)] rfl rfl (cell_one_new _ _ _) (ints_oneCell .u8 [_]) hk1 (by omega) (by simp; omega) ?_; intro v' w1 hown' hgrow _))
      rw [HB.out] at hown'
      have HO' : Hid (w1.ownsRow w.heap.size 5 1 v' (k + 1) (Bm.cellsOf (Bm.bytesTo (Bm.read s.data.toList) (k + 1)))) := by
        rw [Bm.bytesTo_succ]
        unfold Bm.cellsOf
        rw [List.map_append]
        exact hown'
      have hb' : Below w.heap.size w w1 := (hb.alloc hbs _).grown hgrow (by simp; omega) (fun g hg => (HO.out.lt g hg).1)
      clear hown' hgrow HO hb
      go_roundw
      case rel => exact ⟨k + 1, by omega, by go_num, HO', hb'⟩
      case measure => simp [intOf]; omega
    · have hcv := conv_own HO.out
      have HE : Hid (Bm.bytesTo (Bm.read s.data.toList) k = Bm.bytes (Bm.read s.data.toList)) := by
        show _ = _
        unfold Bm.bytes
        have hlb : (Bm.read s.data.toList).length = s.size := by simp [Bm.length_read]
        rw [hlb, show s.size / 8 = k by omega]
      rw [HE.out] at hcv
      clear HO HE
      go_wp2
      go_ret
      exact ⟨rfl, hb⟩
end Go.Proofs.YtfnbkehabadpmaaDoor
