/- BusCopies: a copy goes its own way, a turned bit that is waited for too, for every slice of at most 60 bools (longer ones are let by); no condition. -/
import Derived.Test.YthblfldnlfopcaaJk
import Derived.Test.YthblfldnlfopcaaJn
namespace Go.Proofs.Ythblfldnlfopcaa.busCopies
open Go.ChangeShapes Go.WideShapes Go.ChangeAt Go.RowKit
set_option linter.unusedVariables false
variable {At : World → Nat → (Nat → Prop) → List Bool → Bool → Prop}
def seg (B : Nat → Bool) (k : Nat) : List Bool := (List.range k).map B
theorem seg_succ (B : Nat → Bool) (k : Nat) : seg B (k + 1) = seg B k ++ [B k] := by unfold seg; rw [List.range_succ, List.map_append]; rfl
theorem length_seg (B : Nat → Bool) (k : Nat) : (seg B k).length = k := by simp [seg]
set_option maxRecDepth 100000 in
set_option maxHeartbeats 4000000 in
theorem row (S : BusSpec At) (s : Option Addr) (len cap : Nat) (B : Nat → Bool) (fl : Bool) (hl : len ≤ 60) (W : World) (hs : Hid (len = 0 ∨ ∃ b off, s = some ⟨b, off, none⟩ ∧ ∀ i, i < len → W.cell? ⟨b, off + i, none⟩ = some (.bool (B i)))) :
    Calls Try.prog 6 #[.slice s len cap, .bool fl] W fun e w' => e = .returned (.bool true) ∧ Below W.heap.size W w' := by
  go_enter Try.func6, Try.ntmps6
  go_wp2_with fail
  refine (known6_any S _).mono ?_
  rintro e w0 ⟨rfl, hb0⟩
  go_wp2_with fail
  refine (own_new S W.heap.size _ hb0.size).mono ?_
  rintro e w1 ⟨p, rfl, O, hb1⟩
  have hA : Hid (Below W.heap.size W w1) := hb0.trans (hb1.mono hb0.size)
  have OB : Hid (Own At W.heap.size w1 p [] false) := O
  clear hb0 hb1 O
  go_wp2_with fail
  go_loopw [6] (fun i wr => ∃ k : Nat, k ≤ len ∧ i = .int .i64 k ∧ Hid (Own At W.heap.size wr p (seg B k) false) ∧ Hid (Below W.heap.size W wr)) (fun i _ => len - (intOf i).toNat)
  case atStart => exact ⟨0, Nat.zero_le _, rfl, OB, hA⟩
  case round =>
    clear hA OB
    obtain ⟨k, hk, rfl, OB, hA⟩ := hrel
    by_cases hlt : k < len
    · obtain h0 | ⟨b, off, rfl, hcell⟩ := hs.out
      · omega
      have hce : wr.cell? ⟨b, off + k, none⟩ = some (.bool (B k)) := by
        have h := hcell k hlt
        rw [hA.out.cell (p := ⟨b, off + k, none⟩) (block_lt_of_cell h)]
        exact h
      have hlen := length_seg B k
      have HP : Hid (_) := seg_succ B k
      cases hB : B k
      all_goals
        rw [hB] at hce
        clear hcell hs
        go_wp2_with fail
        refine (own_step S _ OB.out hA.out.size (by omega) (by decide)).mono ?_
        rintro e w2 ⟨rfl, O', hb'⟩
        have hA2 : Hid (Below W.heap.size W w2) := hA.out.trans hb'
        have OB2 : Hid (Own At W.heap.size w2 p (seg B (k + 1)) false) := by show Own _ _ _ _ _ _; rw [HP.out, hB]; exact O'
        clear hb' O' hA OB HP hlen
        go_wp2
        go_roundw
        case rel => exact ⟨k + 1, by omega, by go_num, OB2, hA2⟩
        case measure => simp [intOf]; omega
    · obtain rfl : k = len := by omega
      have hlen := length_seg B k
      generalize seg B k = bs at *
      subst hlen
      have hq := Bz.last_id (bs := bs) (by omega)
      have hq2 := fun x => Bz.last_id (bs := bs ++ [x]) (by simp; omega)
      have HQ : Hid (_) := hq
      have HQ2 : Hid (_) := hq2
      clear hq hq2 hlt hk hs
      have hw : Bz.wire [49] = true := rfl
      have hs1 : Bz.sg true = 49 := rfl
      have hs0 : Bz.sg false = 48 := rfl
      cases fl
      · go_wp2_with fail
        refine (own_copy S OB.out hA.out.size (by omega)).mono ?_
        rintro e w2 ⟨q, rfl, T', hb'⟩
        replace hA : Hid (Below W.heap.size W w2) := hA.out.trans hb'
        have TB : Hid (Two At W.heap.size w2 _ _ _ _ _ _) := T'
        clear T' hb' OB
        go_wp2_with fail
        refine (two_trace S TB.out hA.out.size (by (try simp) <;> omega)).mono ?_
        rintro e w' ⟨rfl, T', hb'⟩
        replace hA : Hid (Below W.heap.size W w') := hA.out.trans hb'
        replace TB : Hid (Two At W.heap.size w' _ _ _ _ _ _) := T'
        clear T' hb'
        try (clear t1; have t1 := hce1.out _ hA.out)
        go_wp2_with fail
        refine (two_step2 S ⟨#[49]⟩ TB.out hA.out.size (by (try simp) <;> omega) (by first | decide | omega | assumption)).mono ?_
        rintro e w' ⟨rfl, T', hb'⟩
        replace hA : Hid (Below W.heap.size W w') := hA.out.trans hb'
        replace TB : Hid (Two At W.heap.size w' _ _ _ _ _ _) := T'
        clear T' hb'
        try (clear t1; have t1 := hce1.out _ hA.out)
        go_wp2_with fail
        refine (two_trace S TB.out hA.out.size (by (try simp) <;> omega)).mono ?_
        rintro e w' ⟨rfl, T', hb'⟩
        replace hA : Hid (Below W.heap.size W w') := hA.out.trans hb'
        replace TB : Hid (Two At W.heap.size w' _ _ _ _ _ _) := T'
        clear T' hb'
        try (clear t1; have t1 := hce1.out _ hA.out)
        go_wp2_with fail
        refine (two_len S TB.out hA.out.size (by (try simp) <;> omega)).mono ?_
        rintro e w' ⟨rfl, T', hb'⟩
        replace hA : Hid (Below W.heap.size W w') := hA.out.trans hb'
        replace TB : Hid (Two At W.heap.size w' _ _ _ _ _ _) := T'
        clear T' hb'
        try (clear t1; have t1 := hce1.out _ hA.out)
        go_wp2_with fail
        refine (two_len2 S TB.out hA.out.size (by (try simp) <;> omega)).mono ?_
        rintro e w' ⟨rfl, T', hb'⟩
        replace hA : Hid (Below W.heap.size W w') := hA.out.trans hb'
        replace TB : Hid (Two At W.heap.size w' _ _ _ _ _ _) := T'
        clear T' hb'
        try (clear t1; have t1 := hce1.out _ hA.out)
        go_wp2_with fail
        refine (two_step S ⟨#[49]⟩ TB.out hA.out.size (by (try simp) <;> omega) (by first | decide | omega | assumption)).mono ?_
        rintro e w' ⟨rfl, T', hb'⟩
        replace hA : Hid (Below W.heap.size W w') := hA.out.trans hb'
        replace TB : Hid (Two At W.heap.size w' _ _ _ _ _ _) := T'
        clear T' hb'
        try (clear t1; have t1 := hce1.out _ hA.out)
        go_wp2_with fail
        refine (two_trace S TB.out hA.out.size (by (try simp) <;> omega)).mono ?_
        rintro e w' ⟨rfl, T', hb'⟩
        replace hA : Hid (Below W.heap.size W w') := hA.out.trans hb'
        replace TB : Hid (Two At W.heap.size w' _ _ _ _ _ _) := T'
        clear T' hb'
        try (clear t1; have t1 := hce1.out _ hA.out)
        go_wp2_with fail
        refine (two_trace2 S TB.out hA.out.size (by (try simp) <;> omega)).mono ?_
        rintro e w' ⟨rfl, T', hb'⟩
        replace hA : Hid (Below W.heap.size W w') := hA.out.trans hb'
        replace TB : Hid (Two At W.heap.size w' _ _ _ _ _ _) := T'
        clear T' hb'
        try (clear t1; have t1 := hce1.out _ hA.out)
        go_wp2
        go_ret
        exact ⟨rfl, hA.out⟩
      · go_wp2_with fail
        refine (own_flip S OB.out hA.out.size).mono ?_
        rintro e w3 ⟨rfl, O', hb'⟩
        replace hA : Hid (Below W.heap.size W w3) := hA.out.trans hb'
        replace OB : Hid (Own At W.heap.size w3 _ _ _) := O'
        clear O' hb'
        go_wp2_with fail
        refine (own_copy S OB.out hA.out.size (by omega)).mono ?_
        rintro e w2 ⟨q, rfl, T', hb'⟩
        replace hA : Hid (Below W.heap.size W w2) := hA.out.trans hb'
        have TB : Hid (Two At W.heap.size w2 _ _ _ _ _ _) := T'
        clear T' hb' OB
        go_wp2_with fail
        refine (two_trace S TB.out hA.out.size (by (try simp) <;> omega)).mono ?_
        rintro e w' ⟨rfl, T', hb'⟩
        replace hA : Hid (Below W.heap.size W w') := hA.out.trans hb'
        replace TB : Hid (Two At W.heap.size w' _ _ _ _ _ _) := T'
        clear T' hb'
        try (clear t1; have t1 := hce1.out _ hA.out)
        go_wp2_with fail
        refine (two_step2 S ⟨#[49]⟩ TB.out hA.out.size (by (try simp) <;> omega) (by first | decide | omega | assumption)).mono ?_
        rintro e w' ⟨rfl, T', hb'⟩
        replace hA : Hid (Below W.heap.size W w') := hA.out.trans hb'
        replace TB : Hid (Two At W.heap.size w' _ _ _ _ _ _) := T'
        clear T' hb'
        try (clear t1; have t1 := hce1.out _ hA.out)
        go_wp2_with fail
        refine (two_trace S TB.out hA.out.size (by (try simp) <;> omega)).mono ?_
        rintro e w' ⟨rfl, T', hb'⟩
        replace hA : Hid (Below W.heap.size W w') := hA.out.trans hb'
        replace TB : Hid (Two At W.heap.size w' _ _ _ _ _ _) := T'
        clear T' hb'
        try (clear t1; have t1 := hce1.out _ hA.out)
        go_wp2_with fail
        refine (two_len S TB.out hA.out.size (by (try simp) <;> omega)).mono ?_
        rintro e w' ⟨rfl, T', hb'⟩
        replace hA : Hid (Below W.heap.size W w') := hA.out.trans hb'
        replace TB : Hid (Two At W.heap.size w' _ _ _ _ _ _) := T'
        clear T' hb'
        try (clear t1; have t1 := hce1.out _ hA.out)
        go_wp2_with fail
        refine (two_len2 S TB.out hA.out.size (by (try simp) <;> omega)).mono ?_
        rintro e w' ⟨rfl, T', hb'⟩
        replace hA : Hid (Below W.heap.size W w') := hA.out.trans hb'
        replace TB : Hid (Two At W.heap.size w' _ _ _ _ _ _) := T'
        clear T' hb'
        try (clear t1; have t1 := hce1.out _ hA.out)
        go_wp2_with fail
        refine (two_step S ⟨#[49]⟩ TB.out hA.out.size (by (try simp) <;> omega) (by first | decide | omega | assumption)).mono ?_
        rintro e w' ⟨rfl, T', hb'⟩
        replace hA : Hid (Below W.heap.size W w') := hA.out.trans hb'
        replace TB : Hid (Two At W.heap.size w' _ _ _ _ _ _) := T'
        clear T' hb'
        try (clear t1; have t1 := hce1.out _ hA.out)
        go_wp2_with fail
        refine (two_trace S TB.out hA.out.size (by (try simp) <;> omega)).mono ?_
        rintro e w' ⟨rfl, T', hb'⟩
        replace hA : Hid (Below W.heap.size W w') := hA.out.trans hb'
        replace TB : Hid (Two At W.heap.size w' _ _ _ _ _ _) := T'
        clear T' hb'
        try (clear t1; have t1 := hce1.out _ hA.out)
        go_wp2_with fail
        refine (two_trace2 S TB.out hA.out.size (by (try simp) <;> omega)).mono ?_
        rintro e w' ⟨rfl, T', hb'⟩
        replace hA : Hid (Below W.heap.size W w') := hA.out.trans hb'
        replace TB : Hid (Two At W.heap.size w' _ _ _ _ _ _) := T'
        clear T' hb'
        try (clear t1; have t1 := hce1.out _ hA.out)
        go_wp2
        go_ret
        exact ⟨rfl, hA.out⟩
set_option maxRecDepth 100000 in
set_option maxHeartbeats 1000000 in
theorem long (S : BusSpec At) (s : Option Addr) (len cap : Nat) (fl : Bool) (hl : 60 < len) (W : World) :
    Calls Try.prog 6 #[.slice s len cap, .bool fl] W fun e w' => e = .returned (.bool true) ∧ Below W.heap.size W w' := by
  go_enter Try.func6, Try.ntmps6
  go_wp2_with fail
  refine (known6_any S _).mono ?_
  rintro e w0 ⟨rfl, hb0⟩
  go_wp2
  go_ret
  exact ⟨rfl, hb0⟩
theorem walkA (S : BusSpec At) (s0 : Option Addr) (len0 cap0 : Nat) (a0 : Nat → Bool) {w : World} (w0 : IsBools w s0 len0 cap0 a0) (fl : Bool) (w' : World) (hw : w' = w) :
    Calls Try.prog 6 #[.slice s0 len0 cap0, .bool fl] w' fun e w'' => e = .returned (.bool true) ∧ Below w'.heap.size w' w'' := by
  subst hw
  by_cases h1 : 60 < len0
  · exact long S _ _ _ _ h1 _
  · refine row S _ _ _ a0 _ (by omega) _ ?_
    show _ ∨ _
    rcases w0 with ⟨rfl, rfl, rfl⟩ | ⟨x, rfl, hl, hm, hcell⟩
    · exact Or.inl rfl
    · by_cases h0 : len0 = 0
      · exact Or.inl h0
      · obtain ⟨b, off, spot⟩ := x
        have hspot : spot = none := by simpa [Addr.add] using World.cell?_spot (hcell 0 (by omega))
        subst hspot
        exact Or.inr ⟨b, off, rfl, fun i hi => by rw [← Go.WideShapes.add_plain]; exact hcell i (by omega)⟩
end Go.Proofs.Ythblfldnlfopcaa.busCopies
