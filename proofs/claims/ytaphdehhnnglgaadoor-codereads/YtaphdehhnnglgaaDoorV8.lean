/- The document's own Decode, over its text. -/
import Derived.Test.YtaphdehhnnglgaaDoorV7
namespace Go.Proofs.YtaphdehhnnglgaaDoor
open Go.RowKit
set_option maxRecDepth 100000 in
set_option maxHeartbeats 1000000 in
theorem newreader_any (w : World) : Calls Tryd.prog 33 #[] w fun e w' => e = .returned (.pointer (some ⟨w.heap.size, 0, none⟩)) ∧ w'.heap[w.heap.size]? = some (.cells (rdc ⟨#[]⟩ Cm.Rd.new []) 58 (0, 0)) ∧ Below w.heap.size w w' := by
  go_enter Tryd.func33, Tryd.ntmps33
  go_wp2
  go_ret
  exact ⟨rfl, heap_alloc_new _ _, (Below.refl _ _).alloc (Nat.le_refl _) _⟩
set_option maxRecDepth 100000 in
set_option maxHeartbeats 1000000 in
theorem rdecode_any (s : ByteArray) (w : World) (hs : s.size ≤ 1000000) :
    Calls Tryd.prog 17 #[.string s] w fun e w' => e = .returned (fv (Cm.dec (Bm.read s.data.toList))) ∧ Below w.heap.size w w' := by
  have hlen : (Bm.read s.data.toList).length = s.size := by rw [Bm.length_read]; rfl
  go_enter Tryd.func17, Tryd.ntmps17
  go_wp2_with (go_at_call 33; refine (newreader_any _).mono ?_; rintro e w1 ⟨rfl, hr1, hb1⟩)
  have hsz : (w.alloc (Obj.cells #[Value.bool false, Value.int IntKind.u32 0, Value.bool false, Value.string ⟨#[]⟩] 24)).heap.size = w.heap.size + 1 := by simp
  have HO : Hid (w1.heap[w.heap.size]? = some (.cells #[.bool false, .int .u32 0, .bool false, .string ⟨#[]⟩] 24 (0, 0))) := (hb1.block w.heap.size (by rw [hsz]; omega)).trans (heap_alloc_new _ _)
  have HB : Hid (Below w.heap.size w w1) := ((Below.refl w.heap.size w).alloc (Nat.le_refl _) _).trans (hb1.mono (by rw [hsz]; omega))
  rw [hsz] at hr1
  have HR : Hid (_) := hr1
  clear hr1 hb1 hsz
  go_loopw [6] (fun i wr => ∃ (k : Nat) (S : ByteArray) (st : Cm.Rd) (R : List Bool), k ≤ s.size ∧ i = .int .i64 k ∧ Hid (wr.heap[w.heap.size + 1]? = some (.cells (rdc S st R) 58 (0, 0))) ∧ Hid (wr.heap[w.heap.size]? = some (.cells #[.bool false, .int .u32 0, .bool false, .string ⟨#[]⟩] 24 (0, 0))) ∧ Hid (Below w.heap.size w wr) ∧ Hid (Cm.dec (Bm.read s.data.toList) = Cm.dB st k ((Bm.read s.data.toList).drop k)) ∧ S.size = k ∧ Hid (Inv st R k))
    (fun i _ => s.size - (intOf i).toNat)
  case atStart => exact ⟨0, ⟨#[]⟩, Cm.Rd.new, [], Nat.zero_le _, rfl, HR, HO, HB, rfl, rfl, inv_new⟩
  case round =>
    obtain ⟨k, S, st, R, hk, rfl, HR, HO, HB, HI, hS, HV⟩ := hrel
    by_cases hlt : k < s.size
    · rcases hbit : Cm.bit st (Bm.isOne s[k]) with ⟨ec, st'⟩
      have HN : Hid (∀ _ : Unit, Calls Tryd.prog 34 #[.pointer (some ⟨w.heap.size + 1, 0, none⟩), .int .u8 (s[k].toNat : Int)] wr fun e w' => e = .returned (.int .i64 (ec : Int)) ∧
          (ec ≤ 1 → ∃ R', w'.heap[w.heap.size + 1]? = some (.cells (rdc (S ++ ByteArray.mk #[Bm.sign (Bm.isOne s[k])]) st' R') 58 (0, 0)) ∧ (ec = 0 → Inv st' R' (S.size + 1))) ∧ But (w.heap.size + 1) wr w') := fun _ => by
        have h := next_bit (w.heap.size + 1) S (by omega) st R s[k] wr (by rw [hS]; exact HV.out) HR.out
        rw [hbit] at h
        exact h
      have HD : Hid (Cm.dec (Bm.read s.data.toList) = if ec = 0 then Cm.dB st' (k + 1) ((Bm.read s.data.toList).drop (k + 1)) else if ec = 1 then (st'.frame, k + 1, 0) else (Cm.noF, k, ec)) := by
        show _ = _
        rw [HI.out, Bm.read_drop s k hlt]
        show (if (Cm.bit st _).1 = 0 then _ else _) = _
        rw [hbit]
      clear HI hbit
      have hO : w.heap.size < wr.heap.size := (Array.getElem?_eq_some_iff.1 HO.out).1
      go_wp2_with fail
      refine (HN.out ()).mono ?_
      rintro e w2 ⟨rfl, hn, hbt⟩
      have HO2 : Hid (_) := (hbt.2.2.2.2 w.heap.size hO (by omega)).trans HO.out
      have HB2 : Hid (Below w.heap.size w w2) := HB.out.trans (hbt.below (by omega) (by omega))
      clear HO HB hbt HN
      by_cases e0 : ec = 0
      · subst e0
        obtain ⟨R', hr', hi'⟩ := hn (Nat.zero_le _)
        have HR2 : Hid (_) := hr'
        have HV2 : Hid (Inv st' R' (k + 1)) := by show Inv _ _ _; rw [← hS]; exact hi' rfl
        clear hn hr' hi'
        rw [if_pos rfl] at HD
        go_wp2_with fail
        go_roundw
        case rel => exact ⟨k + 1, _, st', R', by omega, by go_num, HR2, HO2, HB2, HD, by rw [ByteArray.size_append, hS]; rfl, HV2⟩
        case measure => simp [intOf]; omega
      · by_cases e1 : ec = 1
        · subst e1
          obtain ⟨R', hr', _⟩ := hn (Nat.le_refl _)
          have HR2 : Hid (_) := hr'
          clear hn hr'
          rw [if_neg (by decide), if_pos rfl] at HD
          obtain ⟨⟨x, n, r, d⟩, hf⟩ : ∃ f, frI st'.w = f := ⟨_, rfl⟩
          have hff : st'.frame = frI st'.w := by unfold Cm.Rd.frame frI; rfl
          rw [hff, hf] at HD
          unfold rdc at HR2
          rw [hf] at HR2
          have c5 : w2.cell? ⟨w.heap.size + 1, 5, none⟩ = some (.bool x) := nine_cells HR2.out 5 _ rfl
          have c6 : w2.cell? ⟨w.heap.size + 1, 6, none⟩ = some (.int .u32 n) := nine_cells HR2.out 6 _ rfl
          have c7 : w2.cell? ⟨w.heap.size + 1, 7, none⟩ = some (.bool r) := nine_cells HR2.out 7 _ rfl
          have c8 : w2.cell? ⟨w.heap.size + 1, 8, none⟩ = some (.string ⟨d.toArray⟩) := nine_cells HR2.out 8 _ rfl
          obtain ⟨y0, y1, y2, y3, z0, z1, z2, z3⟩ := four_cells HO2.out
          clear hf hff
          go_wp2
          exact bodyPost_ret (v := fv ((x, n, r, d), k + 1, 0)) (by simp [results, Tryd.results17, go_sem, fv, y0, y1, y2, y3]) rfl ⟨by rw [HD.out], ((((HB2.out.setCell (Nat.le_refl _) _).setCell (Nat.le_refl _) _).setCell (Nat.le_refl _) _).setCell (Nat.le_refl _) _)⟩
        · have d0 : ((ec : Int) == 0) = false := by
            rw [beq_eq_false_iff_ne]
            omega
          have d1 : ((ec : Int) == 1) = false := by
            rw [beq_eq_false_iff_ne]
            omega
          rw [if_neg e0, if_neg e1] at HD
          clear hn
          obtain ⟨y0, y1, y2, y3, z0, z1, z2, z3⟩ := four_cells HO2.out
          go_wp2
          exact bodyPost_ret (v := fv (Cm.noF, k, ec)) (by simp [results, Tryd.results17, go_sem, fv, Cm.noF, y0, y1, y2, y3]) rfl ⟨by rw [HD.out], ((((HB2.out.setCell (Nat.le_refl _) _).setCell (Nat.le_refl _) _).setCell (Nat.le_refl _) _).setCell (Nat.le_refl _) _)⟩
    · have hk2 : k = s.size := by omega
      have HD : Hid (Cm.dec (Bm.read s.data.toList) = (Cm.noF, s.size, 10)) := by
        show _ = _
        rw [HI.out, List.drop_of_length_le (by omega), hk2]
        rfl
      obtain ⟨y0, y1, y2, y3, z0, z1, z2, z3⟩ := four_cells HO.out
      clear HI HR HV
      go_wp2
      exact bodyPost_ret (v := fv (Cm.noF, s.size, 10)) (by simp [results, Tryd.results17, go_sem, fv, Cm.noF, y0, y1, y2, y3]) rfl ⟨by rw [HD.out], ((((HB.out.setCell (Nat.le_refl _) _).setCell (Nat.le_refl _) _).setCell (Nat.le_refl _) _).setCell (Nat.le_refl _) _)⟩
end Go.Proofs.YtaphdehhnnglgaaDoor
