/- What the document's own Bit and Of answer, over their text. -/
import Derived.Test.YthkaekpoicodeaaGreatDoorU2
import Derived.Test.YthkaekpoicodeaaGreatDoorU1
namespace Go.Proofs.YthkaekpoicodeaaGreatDoor
open Go.RowKit
set_option maxHeartbeats 400000 in
theorem refBit_any (b : Bool) (w : World) :
    Calls Tryz.prog 73 #[.bool b] w fun e w' => e = .returned (.string ⟨#[Bm.sign b]⟩) ∧ w' = w := by
  cases b
  · go_enter Tryz.func73, Tryz.ntmps73
    go_wp2
    go_ret
    exact ⟨rfl, rfl⟩
  · go_enter Tryz.func73, Tryz.ntmps73
    go_wp2
    go_ret
    exact ⟨rfl, rfl⟩
set_option maxHeartbeats 400000 in
theorem refOf_any (n : Nat) (width : Int) (w : World) (hn : n < 18446744073709551616) :
    Calls Tryz.prog 99 #[.int .u64 n, .int .i64 width] w fun e w' => e = .returned (.string ⟨(Bm.row (Bm.ofB n (Bm.clamp width))).toArray⟩) ∧ w' = w := by
  have hK := Bm.clamp_le width
  have hmm : max 0 (min width 64) = (Bm.clamp width : Int) := by unfold Bm.clamp; omega
  have HG : Hid (∀ k, k < Bm.clamp width → (Bm.row (Bm.ofB n (Bm.clamp width)))[k]? = some (Bm.sign (n.testBit (Bm.clamp width - 1 - k)))) := fun k h => Bm.ofB_get n _ k h
  have HL : Hid ((Bm.row (Bm.ofB n (Bm.clamp width))).length = Bm.clamp width) := by
    show _ = _
    rw [Bm.length_row, Bm.length_ofB]
  generalize Bm.row (Bm.ofB n (Bm.clamp width)) = l at *
  generalize Bm.clamp width = K at *
  go_enter Tryz.func99, Tryz.ntmps99
  go_wp2
  go_loop [5, 6] (fun t i => ∃ k : Nat, k ≤ K ∧ i = .int .i64 ((K : Int) - 1 - k) ∧ t = .string ⟨(l.take k).toArray⟩) (fun _ i => (intOf i + 1).toNat)
  case atStart => exact ⟨0, Nat.zero_le _, by go_num, rfl⟩
  case round =>
    obtain ⟨k, hk, rfl, rfl⟩ := hrel
    by_cases hlt : k < K
    · have HT := HG.out k hlt
      rw [← Bm.bit_dec n _ hn] at HT
      have HT' : Hid (_) := HT
      have hll : (l.take k).length ≤ 64 := by rw [List.length_take]; omega
      clear HT
      go_wp2_with (go_at_call 73; refine (refBit_any _ _).mono ?_; rintro e w' ⟨rfl, rfl⟩)
      go_round
      case rel => exact ⟨k + 1, by omega, by go_num, by rw [Bm.str_snoc _ _ _ HT'.out]⟩
      case measure => simp [intOf]; omega
    · go_wp2
      go_ret
      exact ⟨ret_str (Bm.take_row_all _ _ _ HL.out (by omega)), rfl⟩

end Go.Proofs.YthkaekpoicodeaaGreatDoor
/- What the document's own Num answers, over its text. -/
namespace Go.Proofs.YthkaekpoicodeaaGreatDoor
open Go.RowKit
set_option maxHeartbeats 400000 in
theorem refNum_any (s : ByteArray) (w : World) (hs : s.size ≤ maxLen) :
    Calls Tryz.prog 64 #[.string s] w fun e w' => e = .returned (.int .u64 (Bm.num (Bm.read s.data.toList))) ∧ w' = w := by
  unfold maxLen at hs
  go_enter Tryz.func64, Tryz.ntmps64
  go_wp2
  go_loop [3, 4] (fun n i => ∃ k : Nat, k ≤ s.size ∧ i = .int .i64 k ∧ n = .int .u64 (Bm.num (Bm.read (s.data.toList.take k)))) (fun _ i => s.size - (intOf i).toNat)
  case atStart => exact ⟨0, Nat.zero_le _, rfl, rfl⟩
  case round =>
    obtain ⟨k, hk, rfl, rfl⟩ := hrel
    by_cases hlt : k < s.size
    · have HS : Hid (Bm.num (Bm.read (s.data.toList.take (k + 1))) = Bm.numStep (Bm.num (Bm.read (s.data.toList.take k))) (Bm.isOne s[k])) := by
        rw [Bm.read_take_succ s k hlt]; exact Bm.num_snoc _ _
      have hm := Bm.num_lt (Bm.read (s.data.toList.take k))
      generalize Bm.num (Bm.read (s.data.toList.take k)) = m at *
      go_wp2
      all_goals
        go_round
        case rel => exact ⟨k + 1, by omega, by go_num, by rw [HS.out]; first | rw [Bm.num_yes _ _ hm ‹_›] | rw [Bm.num_no _ _ hm ‹_›]⟩
        case measure => simp [intOf]; omega
    · go_wp2
      go_ret
      exact ⟨ret_int (by rw [Bm.take_all s k (by omega)]), rfl⟩
end Go.Proofs.YthkaekpoicodeaaGreatDoor
/- What the document's own CRC answers, over its text. -/
namespace Go.Proofs.YthkaekpoicodeaaGreatDoor
open Go.RowKit
set_option maxHeartbeats 400000 in
theorem refCrc_any (s : ByteArray) (w : World) (hs : s.size ≤ maxLen) :
    Calls Tryz.prog 65 #[.string s] w fun e w' => e = .returned (.int .u16 (Bm.crc (Bm.read s.data.toList))) ∧ w' = w := by
  unfold maxLen at hs
  go_enter Tryz.func65, Tryz.ntmps65
  go_wp2
  go_loop [3, 4] (fun n i => ∃ k : Nat, k ≤ s.size ∧ i = .int .i64 k ∧ n = .int .u16 (Bm.crc (Bm.read (s.data.toList.take k)))) (fun _ i => s.size - (intOf i).toNat)
  case atStart => exact ⟨0, Nat.zero_le _, rfl, rfl⟩
  case round =>
    obtain ⟨k, hk, rfl, rfl⟩ := hrel
    by_cases hlt : k < s.size
    · have HS : Hid (Bm.crc (Bm.read (s.data.toList.take (k + 1))) = Bm.crcStep (Bm.crc (Bm.read (s.data.toList.take k))) (Bm.isOne s[k])) := by
        rw [Bm.read_take_succ s k hlt]; exact Bm.crc_snoc _ _
      have hm := Bm.crc_lt (Bm.read (s.data.toList.take k))
      generalize Bm.crc (Bm.read (s.data.toList.take k)) = m at *
      go_wp2
      all_goals
        go_round
        case rel => exact ⟨k + 1, by omega, by go_num, by rw [HS.out]; first | rw [Bm.refcrc_yes _ _ hm ‹_›] | rw [Bm.refcrc_no _ _ hm ‹_›]⟩
        case measure => simp [intOf]; omega
    · go_wp2
      go_ret
      exact ⟨ret_int (by rw [Bm.take_all s k (by omega)]), rfl⟩
end Go.Proofs.YthkaekpoicodeaaGreatDoor
/- What the document's own FromBytes answers, over its text. -/
namespace Go.Proofs.YthkaekpoicodeaaGreatDoor
open Go.RowKit
theorem refOf_8 (n : Nat) (w : World) (hn : n < 256) :
    Calls Tryz.prog 99 #[.int .u64 n, .int .i64 8] w fun e w' => e = .returned (.string ⟨(Bm.row (Bm.ofB n 8)).toArray⟩) ∧ w' = w := refOf_any n 8 w (by omega)
theorem str_app (x y : List UInt8) : (ByteArray.mk x.toArray ++ ByteArray.mk y.toArray) = ByteArray.mk (x ++ y).toArray := by
  apply ByteArray.ext
  rw [ByteArray.data_append]
  simp
set_option maxHeartbeats 400000 in
theorem refFrom_any (s : ByteArray) (w : World) (hs : s.size ≤ 1048576) :
    Calls Tryz.prog 114 #[.string s] w fun e w' => e = .returned (.string ⟨(Bm.row (Bm.fromB s.data.toList)).toArray⟩) ∧ w' = w := by
  go_enter Tryz.func114, Tryz.ntmps114
  go_wp2
  go_loop [3, 4] (fun t i => ∃ k : Nat, k ≤ s.size ∧ i = .int .i64 k ∧ t = .string ⟨(Bm.row (Bm.fromB (s.data.toList.take k))).toArray⟩) (fun _ i => s.size - (intOf i).toNat)
  case atStart => exact ⟨0, Nat.zero_le _, rfl, rfl⟩
  case round =>
    obtain ⟨k, hk, rfl, rfl⟩ := hrel
    by_cases hlt : k < s.size
    · have hl := Bm.length_from_take s k hk
      have hby := s[k].toNat_lt
      have HF : Hid (Bm.row (Bm.fromB (s.data.toList.take (k + 1))) = Bm.row (Bm.fromB (s.data.toList.take k)) ++ Bm.row (Bm.ofB s[k].toNat 8)) := by
        show _ = _
        rw [Bm.take_snoc s k hlt, Bm.fromB_snoc]
        simp [Bm.row]
      generalize Bm.row (Bm.fromB (s.data.toList.take k)) = l at *
      have hl8 : (Bm.row (Bm.ofB s[k].toNat 8)).length = 8 := by rw [Bm.length_row, Bm.length_ofB]
      go_wp2_with (go_at_call 99; refine (refOf_8 _ _ (by omega)).mono ?_; rintro e w' ⟨rfl, rfl⟩)
      go_round
      case rel => exact ⟨k + 1, by omega, by go_num, by rw [str_app, HF.out]⟩
      case measure => simp [intOf]; omega
    · go_wp2
      go_ret
      exact ⟨ret_str (by rw [Bm.take_all s k (by omega)]), rfl⟩
end Go.Proofs.YthkaekpoicodeaaGreatDoor
/- What the document's own Bytes answers, over its text. -/
namespace Go.Proofs.YthkaekpoicodeaaGreatDoor
open Go.RowKit
set_option maxRecDepth 100000 in
set_option maxHeartbeats 400000 in
theorem refBytes_any (s : ByteArray) (w : World) (hs : s.size ≤ 1048576) :
    Calls Tryz.prog 113 #[.string s] w fun e w' => e = .returned (.string ⟨(Bm.bytes (Bm.read s.data.toList)).toArray⟩) ∧ Below w.heap.size w w' := by
  obtain ⟨i0, hi, hz0, hz1, hz2⟩ := info_parts Tryz.infoU8
  go_enter Tryz.func113, Tryz.ntmps113
  go_wp2
  go_loopw [3, 4] (fun v i wr => ∃ k : Nat, 8 * k ≤ s.size ∧ i = .int .i64 (8 * (k : Int)) ∧ Hid (wr.ownsRow w.heap.size 5 1 v k (Bm.cellsOf (Bm.bytesTo (Bm.read s.data.toList) k))) ∧ Below w.heap.size w wr)
    (fun _ i _ => s.size - (intOf i).toNat)
  case atStart => exact ⟨0, Nat.zero_le _, rfl, World.ownsRow_nil _ _ _ _, Below.refl _ _⟩
  case round =>
    obtain ⟨k, hk, rfl, HO, hb⟩ := hrel
    by_cases hlt : 8 * k + 8 ≤ s.size
    · have hex : (s.extract (8 * k) (8 * k + 8)).size ≤ maxLen := by
        unfold maxLen
        simp
        omega
      have hbs := hb.size
      have hk1 : k + 1 ≤ maxLen := by unfold maxLen; omega
      have HB : Hid (((Bm.num (Bm.read (List.take 8 (List.drop (8 * k) s.data.toList))) : Nat) : Int) % 256 = ((Bm.byteAt (Bm.read s.data.toList) k).toNat : Int)) := by
        show _ = _
        rw [Bm.read_window, Bm.byteAt_val]
      go_wp2_with (first | (go_at_call 64; refine (refNum_any _ _ hex).mono ?_; rintro e w' ⟨rfl, rfl⟩) | (at_builtin; refine wpList_append_own _ rfl (.tmp 12) (.tmp 20) 74 rfl w.heap.size 5 i0 (.int .u8 0) 1 1 Tryz.underlying74 hi hz0 hz1 hz2 rfl (by decide) u3 k _ rfl (HO.out.alloc _) _ 1 1 [.int .u8 (((Bm.num (Bm.read (List.take 8 (List.drop (8 * k) s.data.toList))) : Nat) : Int) % 256)] rfl rfl (cell_one_new _ _ _) (ints_oneCell .u8 [_]) hk1 (by omega) (by simp; omega) ?_; intro v' w1 hown' hgrow _))
      rw [HB.out] at hown'
      have HO' : Hid (w1.ownsRow w.heap.size 5 1 v' (k + 1) (Bm.cellsOf (Bm.bytesTo (Bm.read s.data.toList) (k + 1)))) := by
        rw [Bm.bytesTo_succ]
        unfold Bm.cellsOf
        rw [List.map_append]
        exact hown'
      have hb' : Below w.heap.size w w1 := (hb.alloc hbs _).grown hgrow (by simp; omega) (fun g hg => (HO.out.lt g hg).1)
      clear hown' hgrow HO hb
      go_roundw
      case rel => exact ⟨k + 1, by omega, by go_num, HO', hb'⟩
      case measure => simp [intOf]; omega
    · have hcv := conv_own HO.out
      have HE : Hid (Bm.bytesTo (Bm.read s.data.toList) k = Bm.bytes (Bm.read s.data.toList)) := by
        show _ = _
        unfold Bm.bytes
        have hlb : (Bm.read s.data.toList).length = s.size := by simp [Bm.length_read]
        rw [hlb, show s.size / 8 = k by omega]
      rw [HE.out] at hcv
      clear HO HE
      go_wp2
      go_ret
      exact ⟨rfl, hb⟩
end Go.Proofs.YthkaekpoicodeaaGreatDoor
