/- StuffBack: what was laid between is taken away again, with the last laid bit missing too; no six are alike, and it isn't longer than it may be, for every two numbers and every width; no condition. -/
import Derived.Test.YtcgpnnmceijmjaaRows
import Derived.Test.YtcgpnnmceijmjaaSl
import Derived.Test.YtcgpnnmceijmjaaSm5
import Derived.Test.YtcgpnnmceijmjaaUn
import Derived.Test.YtcgpnnmceijmjaaRo
import Derived.Test.YtcgpnnmceijmjaaLi
import Derived.WalkKit
import Derived.BigQuiet
import Derived.ProofKit
import Derived.OpenShut
import Derived.ShutString
namespace Go.Proofs.Ytcgpnnmceijmjaa.stuffBack
open Go.ChangeShapes Go.WideShapes Go.ChangeAt Go.RowKit
open Go.ChangeMaps (open_string shut_string)
set_option linter.unusedVariables false
theorem byte_row (l : List UInt8) (i : Nat) (h : i < (ByteArray.mk l.toArray).size) (c : UInt8) (hc : l[i]? = some c) : (ByteArray.mk l.toArray)[i] = c := by
  have hi : i < l.length := by rw [← size_str l]; exact h
  rw [List.getElem?_eq_getElem hi] at hc
  exact Option.some.inj hc
theorem cat_row (x y : List Bool) : (ByteArray.mk (Bm.row x).toArray ++ ByteArray.mk (Bm.row y).toArray) = ByteArray.mk (Bm.row (x ++ y)).toArray := by
  rw [Bm.str_app]; simp [Bm.row]
theorem of_ref (n k : Nat) (hn : n < 18446744073709551616) (hk : k ≤ 64) (x : Int) (hx : x = (k : Int)) (w : World) :
    Calls Try.prog 16 #[.int .u64 n, .int .i64 x] w fun e w' => e = .returned (.string ⟨(Bm.row (Bm.ofB n k)).toArray⟩) ∧ w' = w := by
  subst hx
  have hcl : Bm.clamp (k : Int) = k := by unfold Bm.clamp; omega
  have := refOf_any n (k : Int) w hn
  rw [hcl] at this
  exact this
set_option maxRecDepth 100000 in
set_option maxHeartbeats 4000000 in
theorem walk (a0 : Int) (w0 : (Lit.int .u64 a0).wf = true) (a1 : Int) (w1 : (Lit.int .u64 a1).wf = true) (a2 : Int) (w2 : (Lit.int .u8 a2).wf = true) (w : World) :
    Calls Try.prog 4 #[.int .u64 a0, .int .u64 a1, .int .u8 a2] w fun e w' => e = .returned (.bool true) ∧ Below w.heap.size w w' := by
  obtain ⟨n, rfl, hn⟩ := u64_nat w0
  obtain ⟨m, rfl, hm⟩ := u64_nat w1
  obtain ⟨c, rfl, hc⟩ := u8_nat w2
  clear w0 w1 w2
  have hcat := cat_row
  have hlr := Bm.length_row
  have hlo := Bm.length_ofB
  have hl0 : (Bm.ofB n (c % 65) ++ Bm.ofB m (c / 4)).length ≤ 128 := by rw [List.length_append, Bm.length_ofB, Bm.length_ofB]; omega
  generalize hbs : Bm.ofB n (c % 65) ++ Bm.ofB m (c / 4) = bs at *
  have HC : Hid (Sm.calm (0, false) (Sm.stuff bs)) := Sm.calm_stuff _
  have hst := Sm.stuff_len_le bs
  have hge := Sm.stuff_len_ge bs
  have hmo := Sm.most_le bs.length
  have HU : Hid (Sm.unstuff (Sm.stuff bs) = (bs, -1)) := Sm.unstuff_stuff bs
  have HN : Hid (Sm.stuff bs = bs → Sm.next bs < 0) := Sm.next_same bs
  generalize hT : Sm.stuff bs = T at *
  have HT : Hid (Sm.stuff bs = T) := hT
  clear hT
  obtain ⟨S, hS⟩ : ∃ S, S = ByteArray.mk (Bm.row T).toArray := ⟨_, rfl⟩
  have HS : Hid (S = ByteArray.mk (Bm.row T).toArray) := hS
  have hsz : S.size = T.length := by rw [hS, size_row]
  clear hS
  have HB : Hid (∀ i (h : i < S.size) (h2 : i < T.length), S[i] = Bm.sign T[i]) := fun i h h2 => by
    have hS := HS.out
    subst hS
    exact byte_row _ _ h _ (Sm.sign_get T i h2)
  have tA : decide (Sm.most bs.length < T.length) = false := decide_eq_false (by omega)
  have tB : decide (T.length < bs.length) = false := decide_eq_false (by omega)
  go_enter Try.func4, Try.ntmps4
  go_wp2_with fail
  refine (known2_any _).mono ?_; rintro e w1 ⟨rfl, hb1⟩
  go_wp2_with fail
  refine (of_ref n (c % 65) hn (by omega) _ (by omega) _).mono ?_; rintro e w2 ⟨rfl, rfl⟩
  go_wp2_with fail
  refine (of_ref m (c / 4) hm (by omega) _ (by omega) _).mono ?_; rintro e w3 ⟨rfl, rfl⟩
  go_wp2_with fail
  refine (stuff_row bs _ (by omega)).mono ?_; rintro e w4 ⟨rfl, hb4⟩
  rw [HT.out]
  go_wp2_with fail
  refine (unstuff_row T _ (by omega)).mono ?_; rintro e w5 ⟨rfl, hb5⟩
  rw [HU.out, ← HS.out]
  clear hbs hcat
  go_wp2_with fail
  refine (most_nat bs.length _ rfl (by omega) _).mono ?_; rintro e w6 ⟨rfl, rfl⟩
  go_wp2_with fail
  clear tA tB
  go_loopw [11, 12] (fun u i wr => ∃ k : Nat, k ≤ T.length ∧ i = .int .i64 k ∧ u = .int .i64 (Sm.run (0, false) (T.take k)).1 ∧ Below w.heap.size w wr) (fun _ i _ => T.length - (intOf i).toNat)
  case atStart => exact ⟨0, Nat.zero_le _, rfl, rfl, below_join (below_join hb1 hb4) hb5⟩
  case round =>
    obtain ⟨k, hk, rfl, rfl, hb⟩ := hrel
    by_cases hlt : k < T.length
    · cases k with
      | zero =>
        have HF : Hid ((Sm.run (0, false) (T.take (0 + 1))).1 = 1) := Sm.run_first T hlt
        go_wp2_with fail
        go_quiet (fail)
        go_wp2
        go_roundw
        case rel => exact ⟨0 + 1, by omega, by go_num, by rw [HF.out]; rfl, below_drewN hb _⟩
        case measure => simp [intOf]; omega
      | succ k =>
        have hc5 : (Sm.run (0, false) (T.take (k + 1 + 1))).1 ≤ 5 := HC.out (k + 1 + 1)
        have h1 : k + 1 < S.size := by omega
        have h2 : k < S.size := by omega
        have hI1 : (k : Int) + 1 < (T.length : Int) := by omega
        have hI2 : (k : Int) < (T.length : Int) := by omega
        have hI3 : (0 : Int) < (k : Int) + 1 := by omega
        have HE : Hid (((S[k + 1].toNat : Int) == (S[k].toNat : Int)) = (T[k + 1] == T[k])) := by
          show _ = _
          rw [HB.out (k + 1) h1 hlt, HB.out k h2 (by omega), Sm.sign_eq]
        by_cases he : T[k + 1] = T[k]
        · have t1 : ((S[k + 1].toNat : Int) == (S[k].toNat : Int)) = true := by rw [HE.out, he]; simp
          have HF : Hid (_) := Sm.run_again T k hlt he
          rw [HF.out] at hc5
          generalize hx : (Sm.run (0, false) (T.take (k + 1))).1 = x at *
          clear hx
          have hx1 := fun W => run_idx (P := Try.prog) 9 Try.underlying9 S (k + 1) ((k : Int) + 1) (by omega) h1 W
          have hx2 := fun W => run_idx (P := Try.prog) 9 Try.underlying9 S k (k : Int) rfl h2 W
          go_wp2_with fail
          go_quiet (fail)
          go_wp2
          go_roundw
          case rel => exact ⟨k + 1 + 1, by omega, by go_num, by rw [HF.out]; go_num, below_drewN hb _⟩
          case measure => simp [intOf]; omega
        · have t1 : ((S[k + 1].toNat : Int) == (S[k].toNat : Int)) = false := by rw [HE.out]; simp [he]
          have HF : Hid (_) := Sm.run_anew T k hlt he
          have hx1 := fun W => run_idx (P := Try.prog) 9 Try.underlying9 S (k + 1) ((k : Int) + 1) (by omega) h1 W
          have hx2 := fun W => run_idx (P := Try.prog) 9 Try.underlying9 S k (k : Int) rfl h2 W
          clear hc5
          generalize hx : (Sm.run (0, false) (T.take (k + 1))).1 = x at *
          clear hx
          go_wp2_with fail
          go_quiet (fail)
          go_wp2
          go_roundw
          case rel => exact ⟨k + 1 + 1, by omega, by go_num, by rw [HF.out]; rfl, below_drewN hb _⟩
          case measure => simp [intOf]; omega
    · obtain rfl : k = T.length := by omega
      generalize hx : (Sm.run (0, false) (T.take T.length)).1 = x at *
      clear hx
      have HE : Hid (S.toList = Bm.row T) := by
        show _ = _
        rw [Lib.toList_data, HS.out]
      by_cases hnx : 0 ≤ Sm.next bs
      · have tE : (S.toList == Bm.row bs) = false := by
          rw [HE.out, beq_eq_false_iff_ne]
          intro e
          have e2 : T = bs := by rw [← Bm.read_row T, e, Bm.read_row]
          have := HN.out e2
          omega
        go_wp2_with fail
        refine (next_row bs _ (by omega)).mono ?_; rintro e w7 ⟨rfl, hb7⟩
        go_wp2_with fail
        have hTl : T.length ≤ 257 := by omega
        clear HN HE HT hst hge hmo
        by_cases d1 : 0 < T.length
        · have i1 : (0 : Int) < (T.length : Int) := by omega
          by_cases d2 : x = 1
          · have t2 : ((x : Int) == 1) = true := by rw [d2]; rfl
            by_cases d3 : 5 < T.length
            · have i3 : (5 : Int) < (T.length : Int) := by omega
              have y2 := fun W => run_idx (P := Try.prog) 9 Try.underlying9 S (T.length - 2) ((T.length : Int) - 2) (by omega) (by omega) W
              have y3 := fun W => run_idx (P := Try.prog) 9 Try.underlying9 S (T.length - 3) ((T.length : Int) - 3) (by omega) (by omega) W
              have y4 := fun W => run_idx (P := Try.prog) 9 Try.underlying9 S (T.length - 4) ((T.length : Int) - 4) (by omega) (by omega) W
              have y5 := fun W => run_idx (P := Try.prog) 9 Try.underlying9 S (T.length - 5) ((T.length : Int) - 5) (by omega) (by omega) W
              have y6 := fun W => run_idx (P := Try.prog) 9 Try.underlying9 S (T.length - 6) ((T.length : Int) - 6) (by omega) (by omega) W
              by_cases e26 : (S[T.length - 2].toNat : Int) = (S[T.length - 6].toNat : Int)
              · have t26 : ((S[T.length - 2].toNat : Int) == (S[T.length - 6].toNat : Int)) = true := by simpa using e26
                have E26 : Hid (_) := e26
                clear e26
                by_cases e23 : (S[T.length - 2].toNat : Int) = (S[T.length - 3].toNat : Int)
                · have t23 : ((S[T.length - 2].toNat : Int) == (S[T.length - 3].toNat : Int)) = true := by simpa using e23
                  have E23 : Hid (_) := e23
                  clear e23
                  by_cases e34 : (S[T.length - 3].toNat : Int) = (S[T.length - 4].toNat : Int)
                  · have t34 : ((S[T.length - 3].toNat : Int) == (S[T.length - 4].toNat : Int)) = true := by simpa using e34
                    have E34 : Hid (_) := e34
                    clear e34
                    by_cases e45 : (S[T.length - 4].toNat : Int) = (S[T.length - 5].toNat : Int)
                    · have t45 : ((S[T.length - 4].toNat : Int) == (S[T.length - 5].toNat : Int)) = true := by simpa using e45
                      have E45 : Hid (_) := e45
                      clear e45
                      have hbd : ∀ i (h : i < S.size) (h2 : i < T.length) j (g : j < S.size) (g2 : j < T.length), (S[i].toNat : Int) = (S[j].toNat : Int) → T[i] = T[j] := fun i h h2 j g g2 e => by
                        rw [HB.out i h h2, HB.out j g g2] at e
                        have := Sm.sign_eq T[i] T[j]
                        rw [e] at this
                        simpa using this.symm
                      have k26 := hbd _ (by omega) (by omega) _ (by omega) (by omega) E26.out
                      have k23 := hbd _ (by omega) (by omega) _ (by omega) (by omega) E23.out
                      have k34 := hbd _ (by omega) (by omega) _ (by omega) (by omega) E34.out
                      have k45 := hbd _ (by omega) (by omega) _ (by omega) (by omega) E45.out
                      have HD : Hid (Sm.unstuff (T.take (T.length - 1)) = (bs, -1)) := by
                        obtain ⟨L, hL⟩ : ∃ L, T.length = L + 6 := ⟨T.length - 6, by omega⟩
                        have hd := Sm.drop_last T bs HC.out HU.out L hL T[T.length - 2]
                        rw [show T.length - 1 = L + 5 by omega]
                        refine hd ?_ ?_ ?_ ?_ ?_
                        · rw [k26, List.getElem?_eq_getElem (by omega)]; congr 2; omega
                        · rw [k23, k34, k45, List.getElem?_eq_getElem (by omega)]; congr 2; omega
                        · rw [k23, k34, List.getElem?_eq_getElem (by omega)]; congr 2; omega
                        · rw [k23, List.getElem?_eq_getElem (by omega)]; congr 2; omega
                        · rw [List.getElem?_eq_getElem (by omega)]; congr 2; omega
                      have HX : Hid (∀ w, Calls Try.prog 10 #[.string (S.extract 0 (T.length - 1))] w fun e w' => e = .returned (.tuple #[.string ⟨(Bm.row bs).toArray⟩, .int .i64 (-1)]) ∧ Below w.heap.size w w') := fun w => by
                        have hr : Bm.read (S.extract 0 (T.length - 1)).data.toList = T.take (T.length - 1) := by
                          rw [HS.out, Lib.extract_data]
                          show Bm.read (List.take (T.length - 1 - 0) (List.drop 0 (Bm.row T))) = _
                          rw [List.drop_zero, Nat.sub_zero]
                          unfold Bm.read Bm.row
                          rw [List.map_take, List.map_map]
                          congr 1
                          have : (Bm.isOne ∘ Bm.sign) = id := funext Bm.isOne_sign
                          rw [this, List.map_id]
                        have h := unstuff_any (S.extract 0 (T.length - 1)) w (by simp; omega)
                        rw [hr, HD.out] at h
                        exact h
                      clear hbd k26 k23 k34 k45 HD
                      go_quiet (fail)
                      go_wp2_with fail
                      refine (HX.out _).mono ?_; rintro e w8 ⟨rfl, hb8⟩
                      go_wp2_with fail
                      go_ret
                      exact ⟨rfl, below_join (below_drewN (below_join hb hb7) _) hb8⟩
                    · have t45 : ((S[T.length - 4].toNat : Int) == (S[T.length - 5].toNat : Int)) = false := beq_eq_false_iff_ne.2 e45
                      clear e45
                      go_quiet (fail)
                      go_wp2
                      go_ret
                      exact ⟨rfl, below_drewN (below_join hb hb7) _⟩
                  · have t34 : ((S[T.length - 3].toNat : Int) == (S[T.length - 4].toNat : Int)) = false := beq_eq_false_iff_ne.2 e34
                    clear e34
                    go_quiet (fail)
                    go_wp2
                    go_ret
                    exact ⟨rfl, below_drewN (below_join hb hb7) _⟩
                · have t23 : ((S[T.length - 2].toNat : Int) == (S[T.length - 3].toNat : Int)) = false := beq_eq_false_iff_ne.2 e23
                  clear e23
                  go_quiet (fail)
                  go_wp2
                  go_ret
                  exact ⟨rfl, below_drewN (below_join hb hb7) _⟩
              · have t26 : ((S[T.length - 2].toNat : Int) == (S[T.length - 6].toNat : Int)) = false := beq_eq_false_iff_ne.2 e26
                clear e26
                go_quiet (fail)
                go_wp2
                go_ret
                exact ⟨rfl, below_drewN (below_join hb hb7) _⟩
            · have i3 : decide ((5 : Int) < (T.length : Int)) = false := decide_eq_false (by omega)
              have i4 : decide (5 < T.length) = false := decide_eq_false d3
              go_quiet (fail)
              go_wp2
              go_ret
              exact ⟨rfl, below_drewN (below_join hb hb7) _⟩
          · have t2 : ((x : Int) == 1) = false := beq_eq_false_iff_ne.2 (by omega)
            go_quiet (fail)
            go_wp2
            go_ret
            exact ⟨rfl, below_drewN (below_join hb hb7) _⟩
        · have i1 : decide ((0 : Int) < (T.length : Int)) = false := decide_eq_false (by omega)
          have i2 : decide (0 < T.length) = false := decide_eq_false d1
          go_quiet (fail)
          go_wp2
          go_ret
          exact ⟨rfl, below_drewN (below_join hb hb7) _⟩
      · have hnx' : decide (0 ≤ Sm.next bs) = false := decide_eq_false hnx
        go_wp2_with fail
        refine (next_row bs _ (by omega)).mono ?_; rintro e w7 ⟨rfl, hb7⟩
        go_wp2_with fail
        have hTl : T.length ≤ 257 := by omega
        clear HN HE HT hst hge hmo
        by_cases d1 : 0 < T.length
        · have i1 : (0 : Int) < (T.length : Int) := by omega
          by_cases d2 : x = 1
          · have t2 : ((x : Int) == 1) = true := by rw [d2]; rfl
            by_cases d3 : 5 < T.length
            · have i3 : (5 : Int) < (T.length : Int) := by omega
              have y2 := fun W => run_idx (P := Try.prog) 9 Try.underlying9 S (T.length - 2) ((T.length : Int) - 2) (by omega) (by omega) W
              have y3 := fun W => run_idx (P := Try.prog) 9 Try.underlying9 S (T.length - 3) ((T.length : Int) - 3) (by omega) (by omega) W
              have y4 := fun W => run_idx (P := Try.prog) 9 Try.underlying9 S (T.length - 4) ((T.length : Int) - 4) (by omega) (by omega) W
              have y5 := fun W => run_idx (P := Try.prog) 9 Try.underlying9 S (T.length - 5) ((T.length : Int) - 5) (by omega) (by omega) W
              have y6 := fun W => run_idx (P := Try.prog) 9 Try.underlying9 S (T.length - 6) ((T.length : Int) - 6) (by omega) (by omega) W
              by_cases e26 : (S[T.length - 2].toNat : Int) = (S[T.length - 6].toNat : Int)
              · have t26 : ((S[T.length - 2].toNat : Int) == (S[T.length - 6].toNat : Int)) = true := by simpa using e26
                have E26 : Hid (_) := e26
                clear e26
                by_cases e23 : (S[T.length - 2].toNat : Int) = (S[T.length - 3].toNat : Int)
                · have t23 : ((S[T.length - 2].toNat : Int) == (S[T.length - 3].toNat : Int)) = true := by simpa using e23
                  have E23 : Hid (_) := e23
                  clear e23
                  by_cases e34 : (S[T.length - 3].toNat : Int) = (S[T.length - 4].toNat : Int)
                  · have t34 : ((S[T.length - 3].toNat : Int) == (S[T.length - 4].toNat : Int)) = true := by simpa using e34
                    have E34 : Hid (_) := e34
                    clear e34
                    by_cases e45 : (S[T.length - 4].toNat : Int) = (S[T.length - 5].toNat : Int)
                    · have t45 : ((S[T.length - 4].toNat : Int) == (S[T.length - 5].toNat : Int)) = true := by simpa using e45
                      have E45 : Hid (_) := e45
                      clear e45
                      have hbd : ∀ i (h : i < S.size) (h2 : i < T.length) j (g : j < S.size) (g2 : j < T.length), (S[i].toNat : Int) = (S[j].toNat : Int) → T[i] = T[j] := fun i h h2 j g g2 e => by
                        rw [HB.out i h h2, HB.out j g g2] at e
                        have := Sm.sign_eq T[i] T[j]
                        rw [e] at this
                        simpa using this.symm
                      have k26 := hbd _ (by omega) (by omega) _ (by omega) (by omega) E26.out
                      have k23 := hbd _ (by omega) (by omega) _ (by omega) (by omega) E23.out
                      have k34 := hbd _ (by omega) (by omega) _ (by omega) (by omega) E34.out
                      have k45 := hbd _ (by omega) (by omega) _ (by omega) (by omega) E45.out
                      have HD : Hid (Sm.unstuff (T.take (T.length - 1)) = (bs, -1)) := by
                        obtain ⟨L, hL⟩ : ∃ L, T.length = L + 6 := ⟨T.length - 6, by omega⟩
                        have hd := Sm.drop_last T bs HC.out HU.out L hL T[T.length - 2]
                        rw [show T.length - 1 = L + 5 by omega]
                        refine hd ?_ ?_ ?_ ?_ ?_
                        · rw [k26, List.getElem?_eq_getElem (by omega)]; congr 2; omega
                        · rw [k23, k34, k45, List.getElem?_eq_getElem (by omega)]; congr 2; omega
                        · rw [k23, k34, List.getElem?_eq_getElem (by omega)]; congr 2; omega
                        · rw [k23, List.getElem?_eq_getElem (by omega)]; congr 2; omega
                        · rw [List.getElem?_eq_getElem (by omega)]; congr 2; omega
                      have HX : Hid (∀ w, Calls Try.prog 10 #[.string (S.extract 0 (T.length - 1))] w fun e w' => e = .returned (.tuple #[.string ⟨(Bm.row bs).toArray⟩, .int .i64 (-1)]) ∧ Below w.heap.size w w') := fun w => by
                        have hr : Bm.read (S.extract 0 (T.length - 1)).data.toList = T.take (T.length - 1) := by
                          rw [HS.out, Lib.extract_data]
                          show Bm.read (List.take (T.length - 1 - 0) (List.drop 0 (Bm.row T))) = _
                          rw [List.drop_zero, Nat.sub_zero]
                          unfold Bm.read Bm.row
                          rw [List.map_take, List.map_map]
                          congr 1
                          have : (Bm.isOne ∘ Bm.sign) = id := funext Bm.isOne_sign
                          rw [this, List.map_id]
                        have h := unstuff_any (S.extract 0 (T.length - 1)) w (by simp; omega)
                        rw [hr, HD.out] at h
                        exact h
                      clear hbd k26 k23 k34 k45 HD
                      go_quiet (fail)
                      go_wp2_with fail
                      refine (HX.out _).mono ?_; rintro e w8 ⟨rfl, hb8⟩
                      go_wp2_with fail
                      go_ret
                      exact ⟨rfl, below_join (below_drewN (below_join hb hb7) _) hb8⟩
                    · have t45 : ((S[T.length - 4].toNat : Int) == (S[T.length - 5].toNat : Int)) = false := beq_eq_false_iff_ne.2 e45
                      clear e45
                      go_quiet (fail)
                      go_wp2
                      go_ret
                      exact ⟨rfl, below_drewN (below_join hb hb7) _⟩
                  · have t34 : ((S[T.length - 3].toNat : Int) == (S[T.length - 4].toNat : Int)) = false := beq_eq_false_iff_ne.2 e34
                    clear e34
                    go_quiet (fail)
                    go_wp2
                    go_ret
                    exact ⟨rfl, below_drewN (below_join hb hb7) _⟩
                · have t23 : ((S[T.length - 2].toNat : Int) == (S[T.length - 3].toNat : Int)) = false := beq_eq_false_iff_ne.2 e23
                  clear e23
                  go_quiet (fail)
                  go_wp2
                  go_ret
                  exact ⟨rfl, below_drewN (below_join hb hb7) _⟩
              · have t26 : ((S[T.length - 2].toNat : Int) == (S[T.length - 6].toNat : Int)) = false := beq_eq_false_iff_ne.2 e26
                clear e26
                go_quiet (fail)
                go_wp2
                go_ret
                exact ⟨rfl, below_drewN (below_join hb hb7) _⟩
            · have i3 : decide ((5 : Int) < (T.length : Int)) = false := decide_eq_false (by omega)
              have i4 : decide (5 < T.length) = false := decide_eq_false d3
              go_quiet (fail)
              go_wp2
              go_ret
              exact ⟨rfl, below_drewN (below_join hb hb7) _⟩
          · have t2 : ((x : Int) == 1) = false := beq_eq_false_iff_ne.2 (by omega)
            go_quiet (fail)
            go_wp2
            go_ret
            exact ⟨rfl, below_drewN (below_join hb hb7) _⟩
        · have i1 : decide ((0 : Int) < (T.length : Int)) = false := decide_eq_false (by omega)
          have i2 : decide (0 < T.length) = false := decide_eq_false d1
          go_quiet (fail)
          go_wp2
          go_ret
          exact ⟨rfl, below_drewN (below_join hb hb7) _⟩
theorem own : ownKnob Try.prog.godebug = none := by kernel_rfl
set_option maxRecDepth 100000 in
theorem lifted (os : Os) (started : os.Started) (H : Type) (enc : TypeId × Value → H) :
    ReturnsInHanded {} Try.checked os 4 .any (Rows.stuffBackSpec.pre6 enc Try.prog Try.f4 Rows.stuffBackRow.domain false) (Rows.stuffBackSpec.post enc Try.prog Try.f4 false true false false) := by
  refine returnsInHanded_of_change (C := Try.checked) own started (by kernel_rfl) Try.func4
    (ChangeSpec.witness6 (enc := enc) (C := Try.checked) false ⟨#[], #[.int .u64 0, .int .u64 0, .int .u8 0], []⟩ 8 (by kernel_rfl) (by kernel_rfl) (by kernel_rfl) (by kernel_rfl)) ?_
  intro W base args ds gs before hval0 hW hcnd _
  have hval : ∀ (j : Nat) t v, Try.f4.params[j]? = some t → args[j]? = some v → Value.okWide Try.prog W .any base t v := hval0
  have hW' := hW
  obtain ⟨p, q, hA0, hV, rfl, hfz, hnd⟩ := hW
  have hA : DataW.TrodAll enc Try.prog W 0 (fun _ => true) true Try.f4.params.toList args.toList ds p := hA0
  rw [Try.params4] at hA hval
  obtain ⟨v0, vs0, d0, ds0, p0, q0, hargs, rfl, rfl, h0, r0⟩ := trodAll_cons hA
  obtain ⟨v1, vs1, d1, ds1, p1, q1, rfl, rfl, rfl, h1, r1⟩ := trodAll_cons r0
  obtain ⟨v2, vs2, d2, ds2, p2, q2, rfl, rfl, rfl, h2, r2⟩ := trodAll_cons r1
  obtain ⟨rfl, rfl, rfl⟩ := trodAll_nil r2
  obtain rfl : args = #[v0, v1, v2] := by cases args; simp_all
  obtain ⟨rfl, rfl⟩ := trodVars_none hV
  obtain ⟨a0, rfl, rfl, rfl, w0⟩ := open_int Try.underlying28 (hval 0 28 v0 rfl rfl) h0
  obtain ⟨a1, rfl, rfl, rfl, w1⟩ := open_int Try.underlying28 (hval 1 28 v1 rfl rfl) h1
  obtain ⟨a2, rfl, rfl, rfl, w2⟩ := open_int Try.underlying5 (hval 2 5 v2 rfl rfl) h2
  clear hA0 hval0
  refine (walk a0 w0 a1 w1 a2 w2 W).mono fun e W' ⟨he, bel⟩ => ?_
  subst he
  exact ⟨_, rfl, _, _, _, [], _, [], hW', trodAll_mk1 (shut_bool Try.underlying4 _), (trodAll_cons_mk (shut_int Try.underlying28 w0) (trodAll_cons_mk (shut_int Try.underlying28 w1) (trodAll_cons_mk (shut_int Try.underlying5 w2) trodAll_mk0))), rfl, bel.frame _, fun h => by cases h⟩
theorem over : Rows.stuffBackRow.holds Try.pinned (OpenSpec.ofChange Rows.stuffBackSpec) :=
  OpenClaim.holds_of_wide 4 Try.f4 rfl rfl rfl rfl rfl rfl rfl ⟨rfl, rfl, rfl, rfl, rfl⟩ rfl rfl rfl rfl rfl (by kernel_rfl) Try.func4 (by kernel_rfl)
    (of_decide_eq_true (by kernel_rfl)) (by unfold Func.isWrapper; first | (rw [if_pos (by decide +kernel)]; kernel_rfl) | (rw [if_neg (by decide +kernel)]; exact ⟨rfl, rfl⟩))
    (fun os started H enc _ => lifted os started H enc)
end Go.Proofs.Ytcgpnnmceijmjaa.stuffBack
namespace Go.Proofs.Ytcgpnnmceijmjaa
/-- The statement. -/
theorem stuffBack_holds : Rows.StuffBackSaid := stuffBack.over
#print axioms stuffBack_holds
end Go.Proofs.Ytcgpnnmceijmjaa
