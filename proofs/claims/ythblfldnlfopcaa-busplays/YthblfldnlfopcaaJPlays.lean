/- BusPlays: every row of levels and turns: each bit, the trace behind it, how many there were, for every slice of at most 60 texts of at most 20 bytes (others are let by); no condition. -/
import Derived.Test.YthblfldnlfopcaaJk
import Derived.Test.YthblfldnlfopcaaJn
import Derived.Test.YthblfldnlfopcaaMb
namespace Go.Proofs.Ythblfldnlfopcaa.busPlays
open Go.ChangeShapes Go.WideShapes Go.ChangeAt Go.RowKit
set_option linter.unusedVariables false
variable {At : World → Nat → (Nat → Prop) → List Bool → Bool → Prop}
theorem wire_nil : Bz.wire [] = true := rfl
theorem wire_take (s : ByteArray) (j : Nat) (h : j < s.size) : Bz.wire (s.data.toList.take (j + 1)) = (Bz.wire (s.data.toList.take j) && (s[j] != 48)) := by
  unfold Bz.wire
  have h' : j < s.data.toList.length := by simpa using h
  rw [List.take_add_one, List.getElem?_eq_getElem h', List.all_append]
  simp
  rfl
theorem wire_all (s : ByteArray) : Bz.wire (s.data.toList.take s.size) = Bz.wire s.data.toList := by
  rw [List.take_of_length_le (by simp)]
theorem ne48 (c : UInt8) : (((c.toNat : Int) != 48) = (c != 48)) := by
  rw [Bool.eq_iff_iff]
  simp only [bne_iff_ne, ne_eq, ← UInt8.toNat_inj]
  constructor
  · intro h e; apply h; rw [e]; rfl
  · intro h e; apply h; show c.toNat = 48; omega
theorem row_snoc (bs : List Bool) (x : Bool) : ByteArray.mk (Bm.row bs).toArray ++ ByteArray.mk #[Bm.sign x] = ByteArray.mk (Bm.row (bs ++ [x])).toArray := by
  apply ByteArray.ext
  rw [ByteArray.data_append]
  simp [Bm.row]
theorem conv1 (c : UInt8) (W : World) : (convert 30 9 (.slice (some ⟨W.heap.size, 0, none⟩) 1 1)).run Try.prog (W.alloc (.cells #[.int .u8 (c.toNat : Int)] 5)) = .ok (.string ⟨#[c]⟩) (W.alloc (.cells #[.int .u8 (c.toNat : Int)] 5)) :=
  Lw.run_conv_row (P := Try.prog) (l := [c]) (heap_alloc_new _ _) 30 5 9 Try.underlying30 Try.underlying5 Try.underlying9 0 1 1 (by simp) [c] rfl
/-- The row's cells, as the walk meets them. -/
def TxtRow (W : World) (s : Option Addr) (len : Nat) (T : Nat → ByteArray) : Prop := len = 0 ∨ ∃ b off, s = some ⟨b, off, none⟩ ∧ ∀ i, i < len → W.cell? ⟨b, off + i, none⟩ = some (.string (T i))
def BoolRow (W : World) (s : Option Addr) (len : Nat) (B : Nat → Bool) : Prop := len = 0 ∨ ∃ b off, s = some ⟨b, off, none⟩ ∧ ∀ i, i < len → W.cell? ⟨b, off + i, none⟩ = some (.bool (B i))
set_option maxRecDepth 100000 in
set_option maxHeartbeats 4000000 in
theorem row (S : BusSpec At) (s1 s2 : Option Addr) (len1 cap1 len2 cap2 : Nat) (T : Nat → ByteArray) (B : Nat → Bool) (hl : len1 ≤ 60) (hl2 : len1 ≤ len2) (hl3 : len2 ≤ maxLen) (W : World) (h1 : Hid (TxtRow W s1 len1 T)) (h2 : Hid (BoolRow W s2 len2 B)) :
    Calls Try.prog 3 #[.slice s1 len1 cap1, .slice s2 len2 cap2] W fun e w' => e = .returned (.bool true) ∧ Below W.heap.size W w' := by
  go_enter Try.func3, Try.ntmps3
  go_wp2_with fail
  refine (known6_any S _).mono ?_
  rintro e w0 ⟨rfl, hb0⟩
  go_wp2_with fail
  refine (own_new S W.heap.size _ hb0.size).mono ?_
  rintro e w1 ⟨p, rfl, O, hb1⟩
  have hA : Hid (Below W.heap.size W w1) := hb0.trans (hb1.mono hb0.size)
  have OB : Hid (Own At W.heap.size w1 p [] false) := O
  clear hb0 hb1 O
  go_wp2_with fail
  go_loopw [6, 7] (fun t i wr => ∃ bs : List Bool, bs.length ≤ len1 ∧ i = .int .i64 bs.length ∧ t = .string ⟨(Bm.row bs).toArray⟩ ∧ Hid (Own At W.heap.size wr p bs false) ∧ Hid (Below W.heap.size W wr)) (fun _ i _ => len1 - (intOf i).toNat)
  case atStart => exact ⟨[], Nat.zero_le _, rfl, rfl, OB, hA⟩
  case round =>
    clear hA OB
    obtain ⟨bs, hk, rfl, rfl, OB, hA⟩ := hrel
    have hlr := Bm.length_row
    by_cases hlt : bs.length < len1
    · obtain h0 | ⟨b1, o1, rfl, hc1⟩ := h1.out
      · omega
      obtain h0 | ⟨b2, o2, rfl, hc2⟩ := h2.out
      · omega
      have hce1 : Hid (∀ w : World, Below W.heap.size W w → w.cell? ⟨b1, o1 + bs.length, none⟩ = some (.string (T bs.length))) := fun w hb => by
        have h := hc1 bs.length hlt
        rw [hb.cell (p := ⟨b1, o1 + bs.length, none⟩) (block_lt_of_cell h)]
        exact h
      have hce2 : Hid (∀ w : World, Below W.heap.size W w → w.cell? ⟨b2, o2 + bs.length, none⟩ = some (.bool (B bs.length))) := fun w hb => by
        have h := hc2 bs.length (by omega)
        rw [hb.cell (p := ⟨b2, o2 + bs.length, none⟩) (block_lt_of_cell h)]
        exact h
      clear hc1 hc2 h1 h2
      generalize T bs.length = X at *
      have t1 := hce1.out _ hA.out
      by_cases hX : 20 < X.size
      · clear hce1 hce2
        go_wp2
        go_ret
        exact ⟨rfl, hA.out⟩
      · go_wp2_with fail
        go_loop [8, 9] (fun o i => ∃ j : Nat, j ≤ X.size ∧ i = .int .i64 j ∧ o = .bool (Bz.wire (X.data.toList.take j))) (fun _ i => X.size - (intOf i).toNat)
        case atStart => exact ⟨0, Nat.zero_le _, rfl, rfl⟩
        case round =>
          obtain ⟨j, hj, rfl, rfl⟩ := hrel
          by_cases hjl : j < X.size
          · have HW : Hid (_) := wire_take X j hjl
            clear hce1 hce2
            have hn : (((X[j].toNat : Int) != 48) = (X[j] != 48)) := ne48 _
            cases hw : Bz.wire (X.data.toList.take j)
            · rw [hw] at HW
              clear hn
              go_wp2
              go_round
              case rel => exact ⟨j + 1, by omega, by go_num, by rw [HW.out]; rfl⟩
              case measure => simp [intOf]; omega
            · rw [hw] at HW
              go_wp2
              all_goals
                go_round
                case rel => exact ⟨j + 1, by omega, by go_num, by rw [HW.out]; simp [*]⟩
                case measure => simp [intOf]; omega
          · obtain rfl : j = X.size := by omega
            rw [wire_all]
            have t2 := hce2.out _ hA.out
            have hs1 : Bz.sg true = 49 := rfl
            have hs0 : Bz.sg false = 48 := rfl
            have hX2 : X.size ≤ 1048576 := by omega
            have hcv1 : ∀ W : World, (convert 30 9 (.slice (some ⟨W.heap.size, 0, none⟩) 1 1)).run Try.prog (W.alloc (.cells #[.int .u8 49] 5)) = .ok (.string ⟨#[49]⟩) (W.alloc (.cells #[.int .u8 49] 5)) := conv1 49
            have hcv0 : ∀ W : World, (convert 30 9 (.slice (some ⟨W.heap.size, 0, none⟩) 1 1)).run Try.prog (W.alloc (.cells #[.int .u8 48] 5)) = .ok (.string ⟨#[48]⟩) (W.alloc (.cells #[.int .u8 48] 5)) := conv1 48
            have HQ : Hid (Bz.last bs = bs) := Bz.last_id (by omega)
            have HQ2 : Hid (∀ x, Bz.last (bs ++ [x]) = bs ++ [x]) := fun x => Bz.last_id (by simp; omega)
            cases hB : B bs.length <;> cases hw : Bz.wire X.data.toList
            · have HR : Hid (_) := row_snoc bs false
              have HR1 : (ByteArray.mk (Bm.row bs).toArray ++ ByteArray.mk #[48]) = ByteArray.mk (Bm.row (bs ++ [false])).toArray := HR.out
              rw [hB] at t2
              clear hce2 hB HR
              go_wp2_with fail
              refine (own_copy S OB.out hA.out.size (by omega)).mono ?_
              rintro e w2 ⟨q, rfl, T', hb'⟩
              replace hA : Hid (Below W.heap.size W w2) := hA.out.trans hb'
              have TB : Hid (Two At W.heap.size w2 _ _ _ _ _ _) := T'
              clear T' hb' OB t1
              clear t2
              have t1 := hce1.out _ hA.out
              go_wp2_with fail
              refine (two_step S _ TB.out hA.out.size (by (try simp) <;> omega) (by first | decide | omega | assumption)).mono ?_
              rintro e w' ⟨rfl, T', hb'⟩
              replace hA : Hid (Below W.heap.size W w') := hA.out.trans hb'
              replace TB : Hid (Two At W.heap.size w' _ _ _ _ _ _) := T'
              clear T' hb'
              try (clear t1; have t1 := hce1.out _ hA.out)
              go_wp2_with fail
              refine (two_len2 S TB.out hA.out.size (by (try simp) <;> omega)).mono ?_
              rintro e w' ⟨rfl, T', hb'⟩
              replace hA : Hid (Below W.heap.size W w') := hA.out.trans hb'
              replace TB : Hid (Two At W.heap.size w' _ _ _ _ _ _) := T'
              clear T' hb'
              try (clear t1; have t1 := hce1.out _ hA.out)
              go_wp2_with fail
              refine (two_trace2 S TB.out hA.out.size (by (try simp) <;> omega)).mono ?_
              rintro e w' ⟨rfl, T', hb'⟩
              replace hA : Hid (Below W.heap.size W w') := hA.out.trans hb'
              replace TB : Hid (Two At W.heap.size w' _ _ _ _ _ _) := T'
              clear T' hb'
              try (clear t1; have t1 := hce1.out _ hA.out)
              rw [HQ.out]
              replace TB : Hid (Two At W.heap.size w' p (bs ++ [false]) false q bs false) := by
                have h := TB.out
                rw [hw] at h
                exact h
              go_wp2_with fail
              have hb3 : Below w'.heap.size w' (w'.alloc (.cells #[.int .u8 48] 5)) := (Below.refl _ _).alloc (Nat.le_refl _) _
              replace TB := TB.out.on S hb3
              replace hA : Hid (Below W.heap.size W _) := hA.out.trans (hb3.mono hA.out.size)
              refine (two_trace S TB hA.out.size (by simp; omega)).mono ?_
              rintro e w4 ⟨rfl, T', hb'⟩
              rw [HQ2.out]
              replace hA : Hid (Below W.heap.size W w4) := hA.out.trans hb'
              clear TB hb3
              have TB : Hid (Two At W.heap.size w4 _ _ _ _ _ _) := T'
              clear T' hb' t1
              have t1 := hce1.out _ hA.out
              go_wp2_with fail
              refine (two_len S TB.out hA.out.size (by (try simp) <;> omega)).mono ?_
              rintro e w' ⟨rfl, T', hb'⟩
              replace hA : Hid (Below W.heap.size W w') := hA.out.trans hb'
              replace TB : Hid (Two At W.heap.size w' _ _ _ _ _ _) := T'
              clear T' hb'
              try (clear t1; have t1 := hce1.out _ hA.out)
              rw [List.length_append, List.length_singleton]
              go_wp2_with fail
              refine (two_step2 S _ TB.out hA.out.size (by (try simp) <;> omega) (by first | decide | omega | assumption)).mono ?_
              rintro e w' ⟨rfl, T', hb'⟩
              replace hA : Hid (Below W.heap.size W w') := hA.out.trans hb'
              replace TB : Hid (Two At W.heap.size w' _ _ _ _ _ _) := T'
              clear T' hb'
              try (clear t1; have t1 := hce1.out _ hA.out)
              have OB : Hid (Own At W.heap.size _ p (bs ++ [false]) false) := TB.out.fst
              clear TB hce1 t1
              go_wp2
              go_roundw
              case rel => exact ⟨bs ++ [false], by simp; omega, by simp, rfl, OB, hA⟩
              case measure => simp [intOf]; omega
            · have HR : Hid (_) := row_snoc bs true
              have HR1 : (ByteArray.mk (Bm.row bs).toArray ++ ByteArray.mk #[49]) = ByteArray.mk (Bm.row (bs ++ [true])).toArray := HR.out
              rw [hB] at t2
              clear hce2 hB HR
              go_wp2_with fail
              refine (own_copy S OB.out hA.out.size (by omega)).mono ?_
              rintro e w2 ⟨q, rfl, T', hb'⟩
              replace hA : Hid (Below W.heap.size W w2) := hA.out.trans hb'
              have TB : Hid (Two At W.heap.size w2 _ _ _ _ _ _) := T'
              clear T' hb' OB t1
              clear t2
              have t1 := hce1.out _ hA.out
              go_wp2_with fail
              refine (two_step S _ TB.out hA.out.size (by (try simp) <;> omega) (by first | decide | omega | assumption)).mono ?_
              rintro e w' ⟨rfl, T', hb'⟩
              replace hA : Hid (Below W.heap.size W w') := hA.out.trans hb'
              replace TB : Hid (Two At W.heap.size w' _ _ _ _ _ _) := T'
              clear T' hb'
              try (clear t1; have t1 := hce1.out _ hA.out)
              go_wp2_with fail
              refine (two_len2 S TB.out hA.out.size (by (try simp) <;> omega)).mono ?_
              rintro e w' ⟨rfl, T', hb'⟩
              replace hA : Hid (Below W.heap.size W w') := hA.out.trans hb'
              replace TB : Hid (Two At W.heap.size w' _ _ _ _ _ _) := T'
              clear T' hb'
              try (clear t1; have t1 := hce1.out _ hA.out)
              go_wp2_with fail
              refine (two_trace2 S TB.out hA.out.size (by (try simp) <;> omega)).mono ?_
              rintro e w' ⟨rfl, T', hb'⟩
              replace hA : Hid (Below W.heap.size W w') := hA.out.trans hb'
              replace TB : Hid (Two At W.heap.size w' _ _ _ _ _ _) := T'
              clear T' hb'
              try (clear t1; have t1 := hce1.out _ hA.out)
              rw [HQ.out]
              replace TB : Hid (Two At W.heap.size w' p (bs ++ [true]) false q bs false) := by
                have h := TB.out
                rw [hw] at h
                exact h
              go_wp2_with fail
              have hb3 : Below w'.heap.size w' (w'.alloc (.cells #[.int .u8 49] 5)) := (Below.refl _ _).alloc (Nat.le_refl _) _
              replace TB := TB.out.on S hb3
              replace hA : Hid (Below W.heap.size W _) := hA.out.trans (hb3.mono hA.out.size)
              refine (two_trace S TB hA.out.size (by simp; omega)).mono ?_
              rintro e w4 ⟨rfl, T', hb'⟩
              rw [HQ2.out]
              replace hA : Hid (Below W.heap.size W w4) := hA.out.trans hb'
              clear TB hb3
              have TB : Hid (Two At W.heap.size w4 _ _ _ _ _ _) := T'
              clear T' hb' t1
              have t1 := hce1.out _ hA.out
              go_wp2_with fail
              refine (two_len S TB.out hA.out.size (by (try simp) <;> omega)).mono ?_
              rintro e w' ⟨rfl, T', hb'⟩
              replace hA : Hid (Below W.heap.size W w') := hA.out.trans hb'
              replace TB : Hid (Two At W.heap.size w' _ _ _ _ _ _) := T'
              clear T' hb'
              try (clear t1; have t1 := hce1.out _ hA.out)
              rw [List.length_append, List.length_singleton]
              go_wp2_with fail
              refine (two_step2 S _ TB.out hA.out.size (by (try simp) <;> omega) (by first | decide | omega | assumption)).mono ?_
              rintro e w' ⟨rfl, T', hb'⟩
              replace hA : Hid (Below W.heap.size W w') := hA.out.trans hb'
              replace TB : Hid (Two At W.heap.size w' _ _ _ _ _ _) := T'
              clear T' hb'
              try (clear t1; have t1 := hce1.out _ hA.out)
              have OB : Hid (Own At W.heap.size _ p (bs ++ [true]) false) := TB.out.fst
              clear TB hce1 t1
              go_wp2
              go_roundw
              case rel => exact ⟨bs ++ [true], by simp; omega, by simp, rfl, OB, hA⟩
              case measure => simp [intOf]; omega
            · have HR : Hid (_) := row_snoc bs true
              have HR1 : (ByteArray.mk (Bm.row bs).toArray ++ ByteArray.mk #[49]) = ByteArray.mk (Bm.row (bs ++ [true])).toArray := HR.out
              rw [hB] at t2
              clear hce2 hB HR
              go_wp2_with fail
              refine (own_flip S OB.out hA.out.size).mono ?_
              rintro e w' ⟨rfl, T', hb'⟩
              replace hA : Hid (Below W.heap.size W w') := hA.out.trans hb'
              replace OB : Hid (Own At W.heap.size w' _ _ _) := T'
              clear T' hb'
              try (clear t1; have t1 := hce1.out _ hA.out)
              clear t2
              go_wp2_with fail
              refine (own_copy S OB.out hA.out.size (by omega)).mono ?_
              rintro e w2 ⟨q, rfl, T', hb'⟩
              replace hA : Hid (Below W.heap.size W w2) := hA.out.trans hb'
              have TB : Hid (Two At W.heap.size w2 _ _ _ _ _ _) := T'
              clear T' hb' OB t1
              skip
              have t1 := hce1.out _ hA.out
              go_wp2_with fail
              refine (two_step S _ TB.out hA.out.size (by (try simp) <;> omega) (by first | decide | omega | assumption)).mono ?_
              rintro e w' ⟨rfl, T', hb'⟩
              replace hA : Hid (Below W.heap.size W w') := hA.out.trans hb'
              replace TB : Hid (Two At W.heap.size w' _ _ _ _ _ _) := T'
              clear T' hb'
              try (clear t1; have t1 := hce1.out _ hA.out)
              go_wp2_with fail
              refine (two_len2 S TB.out hA.out.size (by (try simp) <;> omega)).mono ?_
              rintro e w' ⟨rfl, T', hb'⟩
              replace hA : Hid (Below W.heap.size W w') := hA.out.trans hb'
              replace TB : Hid (Two At W.heap.size w' _ _ _ _ _ _) := T'
              clear T' hb'
              try (clear t1; have t1 := hce1.out _ hA.out)
              go_wp2_with fail
              refine (two_trace2 S TB.out hA.out.size (by (try simp) <;> omega)).mono ?_
              rintro e w' ⟨rfl, T', hb'⟩
              replace hA : Hid (Below W.heap.size W w') := hA.out.trans hb'
              replace TB : Hid (Two At W.heap.size w' _ _ _ _ _ _) := T'
              clear T' hb'
              try (clear t1; have t1 := hce1.out _ hA.out)
              rw [HQ.out]
              replace TB : Hid (Two At W.heap.size w' p (bs ++ [true]) false q bs true) := by
                have h := TB.out
                rw [hw] at h
                exact h
              go_wp2_with fail
              have hb3 : Below w'.heap.size w' (w'.alloc (.cells #[.int .u8 49] 5)) := (Below.refl _ _).alloc (Nat.le_refl _) _
              replace TB := TB.out.on S hb3
              replace hA : Hid (Below W.heap.size W _) := hA.out.trans (hb3.mono hA.out.size)
              refine (two_trace S TB hA.out.size (by simp; omega)).mono ?_
              rintro e w4 ⟨rfl, T', hb'⟩
              rw [HQ2.out]
              replace hA : Hid (Below W.heap.size W w4) := hA.out.trans hb'
              clear TB hb3
              have TB : Hid (Two At W.heap.size w4 _ _ _ _ _ _) := T'
              clear T' hb' t1
              have t1 := hce1.out _ hA.out
              go_wp2_with fail
              refine (two_len S TB.out hA.out.size (by (try simp) <;> omega)).mono ?_
              rintro e w' ⟨rfl, T', hb'⟩
              replace hA : Hid (Below W.heap.size W w') := hA.out.trans hb'
              replace TB : Hid (Two At W.heap.size w' _ _ _ _ _ _) := T'
              clear T' hb'
              try (clear t1; have t1 := hce1.out _ hA.out)
              rw [List.length_append, List.length_singleton]
              go_wp2_with fail
              refine (two_step2 S _ TB.out hA.out.size (by (try simp) <;> omega) (by first | decide | omega | assumption)).mono ?_
              rintro e w' ⟨rfl, T', hb'⟩
              replace hA : Hid (Below W.heap.size W w') := hA.out.trans hb'
              replace TB : Hid (Two At W.heap.size w' _ _ _ _ _ _) := T'
              clear T' hb'
              try (clear t1; have t1 := hce1.out _ hA.out)
              have OB : Hid (Own At W.heap.size _ p (bs ++ [true]) false) := TB.out.fst
              clear TB hce1 t1
              go_wp2
              go_roundw
              case rel => exact ⟨bs ++ [true], by simp; omega, by simp, rfl, OB, hA⟩
              case measure => simp [intOf]; omega
            · have HR : Hid (_) := row_snoc bs false
              have HR1 : (ByteArray.mk (Bm.row bs).toArray ++ ByteArray.mk #[48]) = ByteArray.mk (Bm.row (bs ++ [false])).toArray := HR.out
              rw [hB] at t2
              clear hce2 hB HR
              go_wp2_with fail
              refine (own_flip S OB.out hA.out.size).mono ?_
              rintro e w' ⟨rfl, T', hb'⟩
              replace hA : Hid (Below W.heap.size W w') := hA.out.trans hb'
              replace OB : Hid (Own At W.heap.size w' _ _ _) := T'
              clear T' hb'
              try (clear t1; have t1 := hce1.out _ hA.out)
              clear t2
              go_wp2_with fail
              refine (own_copy S OB.out hA.out.size (by omega)).mono ?_
              rintro e w2 ⟨q, rfl, T', hb'⟩
              replace hA : Hid (Below W.heap.size W w2) := hA.out.trans hb'
              have TB : Hid (Two At W.heap.size w2 _ _ _ _ _ _) := T'
              clear T' hb' OB t1
              skip
              have t1 := hce1.out _ hA.out
              go_wp2_with fail
              refine (two_step S _ TB.out hA.out.size (by (try simp) <;> omega) (by first | decide | omega | assumption)).mono ?_
              rintro e w' ⟨rfl, T', hb'⟩
              replace hA : Hid (Below W.heap.size W w') := hA.out.trans hb'
              replace TB : Hid (Two At W.heap.size w' _ _ _ _ _ _) := T'
              clear T' hb'
              try (clear t1; have t1 := hce1.out _ hA.out)
              go_wp2_with fail
              refine (two_len2 S TB.out hA.out.size (by (try simp) <;> omega)).mono ?_
              rintro e w' ⟨rfl, T', hb'⟩
              replace hA : Hid (Below W.heap.size W w') := hA.out.trans hb'
              replace TB : Hid (Two At W.heap.size w' _ _ _ _ _ _) := T'
              clear T' hb'
              try (clear t1; have t1 := hce1.out _ hA.out)
              go_wp2_with fail
              refine (two_trace2 S TB.out hA.out.size (by (try simp) <;> omega)).mono ?_
              rintro e w' ⟨rfl, T', hb'⟩
              replace hA : Hid (Below W.heap.size W w') := hA.out.trans hb'
              replace TB : Hid (Two At W.heap.size w' _ _ _ _ _ _) := T'
              clear T' hb'
              try (clear t1; have t1 := hce1.out _ hA.out)
              rw [HQ.out]
              replace TB : Hid (Two At W.heap.size w' p (bs ++ [false]) false q bs true) := by
                have h := TB.out
                rw [hw] at h
                exact h
              go_wp2_with fail
              have hb3 : Below w'.heap.size w' (w'.alloc (.cells #[.int .u8 48] 5)) := (Below.refl _ _).alloc (Nat.le_refl _) _
              replace TB := TB.out.on S hb3
              replace hA : Hid (Below W.heap.size W _) := hA.out.trans (hb3.mono hA.out.size)
              refine (two_trace S TB hA.out.size (by simp; omega)).mono ?_
              rintro e w4 ⟨rfl, T', hb'⟩
              rw [HQ2.out]
              replace hA : Hid (Below W.heap.size W w4) := hA.out.trans hb'
              clear TB hb3
              have TB : Hid (Two At W.heap.size w4 _ _ _ _ _ _) := T'
              clear T' hb' t1
              have t1 := hce1.out _ hA.out
              go_wp2_with fail
              refine (two_len S TB.out hA.out.size (by (try simp) <;> omega)).mono ?_
              rintro e w' ⟨rfl, T', hb'⟩
              replace hA : Hid (Below W.heap.size W w') := hA.out.trans hb'
              replace TB : Hid (Two At W.heap.size w' _ _ _ _ _ _) := T'
              clear T' hb'
              try (clear t1; have t1 := hce1.out _ hA.out)
              rw [List.length_append, List.length_singleton]
              go_wp2_with fail
              refine (two_step2 S _ TB.out hA.out.size (by (try simp) <;> omega) (by first | decide | omega | assumption)).mono ?_
              rintro e w' ⟨rfl, T', hb'⟩
              replace hA : Hid (Below W.heap.size W w') := hA.out.trans hb'
              replace TB : Hid (Two At W.heap.size w' _ _ _ _ _ _) := T'
              clear T' hb'
              try (clear t1; have t1 := hce1.out _ hA.out)
              have OB : Hid (Own At W.heap.size _ p (bs ++ [false]) false) := TB.out.fst
              clear TB hce1 t1
              go_wp2
              go_roundw
              case rel => exact ⟨bs ++ [false], by simp; omega, by simp, rfl, OB, hA⟩
              case measure => simp [intOf]; omega
    · have hke : bs.length = len1 := by omega
      go_wp2
      go_ret
      exact ⟨rfl, hA.out⟩
set_option maxRecDepth 100000 in
set_option maxHeartbeats 1000000 in
theorem long (S : BusSpec At) (s1 s2 : Option Addr) (len1 cap1 len2 cap2 : Nat) (hl : 60 < len1) (W : World) :
    Calls Try.prog 3 #[.slice s1 len1 cap1, .slice s2 len2 cap2] W fun e w' => e = .returned (.bool true) ∧ Below W.heap.size W w' := by
  go_enter Try.func3, Try.ntmps3
  go_wp2_with fail
  refine (known6_any S _).mono ?_
  rintro e w0 ⟨rfl, hb0⟩
  go_wp2
  go_ret
  exact ⟨rfl, hb0⟩
set_option maxRecDepth 100000 in
set_option maxHeartbeats 1000000 in
theorem few (S : BusSpec At) (s1 s2 : Option Addr) (len1 cap1 len2 cap2 : Nat) (hl : ¬ 60 < len1) (h2 : len2 < len1) (W : World) :
    Calls Try.prog 3 #[.slice s1 len1 cap1, .slice s2 len2 cap2] W fun e w' => e = .returned (.bool true) ∧ Below W.heap.size W w' := by
  go_enter Try.func3, Try.ntmps3
  go_wp2_with fail
  refine (known6_any S _).mono ?_
  rintro e w0 ⟨rfl, hb0⟩
  go_wp2
  go_ret
  exact ⟨rfl, hb0⟩
theorem walkA (S : BusSpec At) (s0 : Option Addr) (len0 cap0 : Nat) (a0 : Nat → ByteArray) {w : World} (w0 : IsStrs w s0 len0 cap0 a0) (s1 : Option Addr) (len1 cap1 : Nat) (a1 : Nat → Bool) (w1 : IsBools w s1 len1 cap1 a1) (w' : World) (hw : w' = w) :
    Calls Try.prog 3 #[.slice s0 len0 cap0, .slice s1 len1 cap1] w' fun e w'' => e = .returned (.bool true) ∧ Below w'.heap.size w' w'' := by
  subst hw
  by_cases h1 : 60 < len0
  · exact long S _ _ _ _ _ _ h1 _
  · by_cases h2 : len1 < len0
    · exact few S _ _ _ _ _ _ h1 h2 _
    · refine row S _ _ _ _ _ _ a0 a1 (by omega) (by omega) ?_ _ ?_ ?_
      · rcases w1 with ⟨rfl, rfl, rfl⟩ | ⟨x, rfl, hl, hm, hcell⟩
        · exact Nat.zero_le _
        · exact Nat.le_trans hl hm
      · show _ ∨ _
        rcases w0 with ⟨rfl, rfl, rfl⟩ | ⟨x, rfl, hl, hm, hcell⟩
        · exact Or.inl rfl
        · by_cases h0 : len0 = 0
          · exact Or.inl h0
          · obtain ⟨b, off, spot⟩ := x
            have hspot : spot = none := by simpa [Addr.add] using World.cell?_spot (hcell 0 (by omega)).1
            subst hspot
            exact Or.inr ⟨b, off, rfl, fun i hi => by rw [← Go.WideShapes.add_plain]; exact (hcell i (by omega)).1⟩
      · show _ ∨ _
        rcases w1 with ⟨rfl, rfl, rfl⟩ | ⟨x, rfl, hl, hm, hcell⟩
        · exact Or.inl rfl
        · by_cases h0 : len1 = 0
          · exact Or.inl h0
          · obtain ⟨b, off, spot⟩ := x
            have hspot : spot = none := by simpa [Addr.add] using World.cell?_spot (hcell 0 (by omega))
            subst hspot
            exact Or.inr ⟨b, off, rfl, fun i hi => by rw [← Go.WideShapes.add_plain]; exact hcell i (by omega)⟩
end Go.Proofs.Ythblfldnlfopcaa.busPlays
