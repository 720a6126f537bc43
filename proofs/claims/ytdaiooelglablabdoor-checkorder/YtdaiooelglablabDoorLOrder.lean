/- CheckOrder: of several errors the first one in their order is told; for every byte; no condition. -/
import Derived.Test.YtdaiooelglablabDoorL6
import Derived.Test.YtdaiooelglablabDoorMc
import Derived.Test.YtdaiooelglablabDoorLo
import Derived.ProofKit
import Derived.OpenShut
namespace Go.Proofs.YtdaiooelglablabDoor.checkOrder
open Go.ChangeShapes Go.WideShapes Go.ChangeAt Go.RowKit
set_option linter.unusedVariables false
variable {Q : World → Prop}
theorem wf14l : Mx.Wf Lo.l14 := Mx.wf_is (by decide)
theorem wf1 (b : Bool) {m : Mx.M} (h : Mx.Wf m) : Mx.Wf (Lo.s1 b m) := by
  cases b
  · exact h
  · exact { h with windows := fun x hx => by obtain rfl := List.mem_singleton.1 hx; exact ⟨rfl, rfl, rfl, rfl, rfl, rfl⟩ }
theorem wf2 (b : Bool) {m : Mx.M} (h : Mx.Wf m) : Mx.Wf (Lo.s2 b m) := by
  cases b
  · exact h
  · have q : ∀ x ∈ m.messages ++ [⟨9, 0, false⟩], x.id < 4294967296 ∧ (Lit.int .i64 x.owner).wf = true := by
      intro x hx
      rcases List.mem_append.1 hx with hx | hx
      · exact h.messages x hx
      · obtain rfl := List.mem_singleton.1 hx
        exact ⟨(by decide : 9 < 4294967296), rfl⟩
    exact { h with messages := q }
theorem wf3 (b : Bool) {m : Mx.M} (h : Mx.Wf m) : Mx.Wf (Lo.s3 b m) := by
  cases b
  · exact h
  · have q : ∀ x ∈ ([0, 0] : List Int), (Lit.int .i64 x).wf = true := by decide
    exact { h with masters := q }
theorem wf4 (b : Bool) {m : Mx.M} (h : Mx.Wf m) : Mx.Wf (Lo.s4 b m) := by
  cases b
  · exact h
  · exact { h with messages := fun x hx => by obtain rfl := List.mem_singleton.1 hx; exact ⟨(by decide : 99 < 4294967296), rfl⟩ }
theorem wf5 (b : Bool) {m : Mx.M} (h : Mx.Wf m) : Mx.Wf (Lo.s5 b m) := by
  cases b
  · exact h
  · exact { h with masters := fun x hx => by obtain rfl := List.mem_singleton.1 hx; rfl }
theorem wf6 (b : Bool) {m : Mx.M} (h : Mx.Wf m) : Mx.Wf (Lo.s6 b m) := by
  cases b
  · exact h
  · exact { h with length := rfl }
theorem wfM (b1 b2 b3 b4 b5 b6 : Bool) : Mx.Wf (Lo.M6 b1 b2 b3 b4 b5 b6) := wf6 _ (wf5 _ (wf4 _ (wf3 _ (wf2 _ (wf1 _ wf14l)))))
theorem natU8o {x : Int} (h : (Lit.int .u8 x).wf = true) : ∃ n : Nat, x = (n : Int) ∧ n < 256 := by
  obtain ⟨h1, h2⟩ := bounds_u8 h
  obtain ⟨n, rfl⟩ := Int.eq_ofNat_of_zero_le h1
  exact ⟨n, rfl, by omega⟩
theorem b33 : ∀ n : Nat, n < 64 → (bits .and .i64 (n : Int) 33 == 33) = (decide (0 < bits .and .i64 (n : Int) 1) && decide (0 < bits .and .i64 (n : Int) 32)) := by decide
set_option maxRecDepth 100000 in
set_option maxHeartbeats 16000000 in
theorem walkA (hQ : ∀ w w', Q w → Below w.heap.size w w' → Q w') (S : CheckSpec Q) (c0 : Int) (w0 : (Lit.int .u8 c0).wf = true) (W : World) (hW : Q W) :
    Calls Tryd.prog 3 #[.int .u8 c0] W fun e w' => e = .returned (.bool true) ∧ Below W.heap.size W w' := by
  have HQ : Hid (∀ w, Below W.heap.size W w → Q w) := fun w hb => hQ W w hW hb
  have HK : Hid (∀ w, Below W.heap.size W w → Calls Tryd.prog 4 #[] w fun e w' => e = .returned (.bool true) ∧ Below w.heap.size w w') := fun w hb => known14_any hQ S w (HQ.out _ hb)
  obtain ⟨c0, rfl, b0⟩ := natU8o w0
  have hA : Hid (Below W.heap.size W W) := Below.refl _ _
  obtain ⟨N, hN⟩ : ∃ N : Nat, c0 % 64 = N := ⟨_, rfl⟩
  have iN : (c0 : Int) % 64 = (N : Int) := by omega
  have uN : N < 64 := by omega
  have iN2 : (N : Int) < 64 := by omega
  have h33 := b33 N uN
  obtain ⟨b1, h1⟩ : ∃ b, decide (0 < bits .and .i64 (N : Int) 1) = b := ⟨_, rfl⟩
  obtain ⟨b2, h2⟩ : ∃ b, decide (0 < bits .and .i64 (N : Int) 2) = b := ⟨_, rfl⟩
  obtain ⟨b3, h3⟩ : ∃ b, decide (0 < bits .and .i64 (N : Int) 4) = b := ⟨_, rfl⟩
  obtain ⟨b4, h4⟩ : ∃ b, decide (0 < bits .and .i64 (N : Int) 8) = b := ⟨_, rfl⟩
  obtain ⟨b5, h5⟩ : ∃ b, decide (0 < bits .and .i64 (N : Int) 16) = b := ⟨_, rfl⟩
  obtain ⟨b6, h6⟩ : ∃ b, decide (0 < bits .and .i64 (N : Int) 32) = b := ⟨_, rfl⟩
  rw [h1, h6] at h33
  have HCk : Hid (∀ (w : World) (p : Nat) (a : Ma) (x : Int × Int), Mb W w p (Lo.M6 b1 b2 b3 b4 b5 b6) a → Lo.ans b1 b2 b3 b4 b5 b6 = x → Calls Tryd.prog 6 #[mV (Lo.M6 b1 b2 b3 b4 b5 b6) a] w fun e w' => e = .returned (.tuple #[.int .i64 x.1, .int .i64 x.2]) ∧ Below w.heap.size w w') := fun w p a x h hx => by
    have := S.check w _ a (HQ.out _ h.bel) h.mem (Lo.M6_small b1 b2 b3 b4 b5 b6) (wfM b1 b2 b3 b4 b5 b6)
    rw [Lo.check_ans, hx] at this
    exact this
  clear hQ hW w0 hN
  go_enter Tryd.func3, Tryd.ntmps3
  go_wp2_with fail
  refine (HK.out _ hA.out).mono ?_
  rintro e z1 ⟨rfl, hb⟩
  replace hA : Hid (Below W.heap.size W z1) := hA.out.trans (hb.mono hA.out.size)
  clear hb HK
  go_wp2_with fail
  refine (least14_any z1).mono ?_
  rintro e z1b ⟨a, rfl, hO, hb⟩
  have HX : Hid (Mb W (z1b.alloc (.cells #[.int .i64 Mx.l14.level, .int .i64 Mx.l14.nodes, .int .i64 Mx.l14.cycles, .int .i64 Mx.l14.length, .int .i64 Mx.l14.enable, .int .i64 Mx.l14.unit, .int .i64 Mx.l14.init, .int .u32 (Mx.l14.ref : Int), .slice a.s1 Mx.l14.masters.length a.c1, .slice a.s2 Mx.l14.messages.length a.c2, .slice a.s3 Mx.l14.windows.length a.c3] 28)) z1b.heap.size Mx.l14 a) := Mb.of (hO.mono hA.out.size) (hA.out.trans (hb.mono hA.out.size))
  clear hO hb hA
  dsimp only [mV, mCs]
  go_upto_region 4 with fail
  generalize z1b.alloc (.cells #[.int .i64 Mx.l14.level, .int .i64 Mx.l14.nodes, .int .i64 Mx.l14.cycles, .int .i64 Mx.l14.length, .int .i64 Mx.l14.enable, .int .i64 Mx.l14.unit, .int .i64 Mx.l14.init, .int .u32 (Mx.l14.ref : Int), .slice a.s1 Mx.l14.masters.length a.c1, .slice a.s2 Mx.l14.messages.length a.c2, .slice a.s3 Mx.l14.windows.length a.c3] 28) = z2 at HX ⊢
  generalize z1b.heap.size = p at HX ⊢
  replace HX : Hid (Mb W z2 p Lo.l14 a) := HX
  clear b0
  go_upto_if 15 with fail
  generalize hM1 : Lo.l14 = M1 at HX
  go_cut [15] from 7 (fun _ wx => ∃ a', Hid (Mb W wx p (Lo.s1 b1 M1) a'))
  case first =>
    cases b1
    · go_wp2_with fail
      go_meet
      case rel => exact ⟨a, HX⟩
    · have qk : ∀ o, (z2.alloc o).cell? ⟨p, 10, none⟩ = some (.slice a.s3 M1.windows.length a.c3) := fun o => (HX.out.al o).row.c 10 _ rfl
      have fk : ∀ o, (z2.alloc o).frozen? ⟨p, 10, none⟩ = false := fun o => (HX.out.al o).row.f 10
      have HY : Hid (Mb W ((z2.alloc (.cells #[.int .i64 1, .int .i64 40, .int .i64 90, .int .i64 0, .int .i64 1, .int .i64 7] 31)).setCell ⟨p, 10, none⟩ (.slice (some ⟨z2.heap.size, 0, none⟩) 1 1)) p (Lo.s1 true M1) { a with s3 := some ⟨z2.heap.size, 0, none⟩, c3 := 1 }) := (HX.out.al _).put3 (xs := [⟨1, 40, 90, 0, 1, 7⟩]) (Mb.ol_lit 31 6 W.heap.size z2 1 _ rfl HX.out.bel.size (by decide)) rfl
      go_wp2_with fail
      go_meet
      case rel => exact ⟨_, HY⟩
  case rest =>
    clear HX a
    obtain ⟨a, HX⟩ := hcut
    generalize wc = z3 at HX ⊢
    subst hM1
    go_upto_if 21 with fail
    generalize hM2 : (Lo.s1 b1 Lo.l14) = M2 at HX
    go_cut [21] from 7 (fun _ wx => ∃ a', Hid (Mb W wx p (Lo.s2 b2 M2) a'))
    case first =>
      cases b2
      · go_wp2_with fail
        go_meet
        case rel => exact ⟨a, HX⟩
      · have qk : z3.cell? ⟨p, 9, none⟩ = some (.slice a.s2 M2.messages.length a.c2) := HX.out.row.c 9 _ rfl
        have HXa : Hid (∀ o, Mb W (z3.alloc o) p M2 a) := fun o => HX.out.al o
        have qa : ∀ o, (z3.alloc o).cell? ⟨p, 9, none⟩ = some (.slice a.s2 M2.messages.length a.c2) := fun o => (HX.out.al o).row.c 9 _ rfl
        have HSr : Hid (Src Tryd.prog 3 25 (.slice (some ⟨z3.heap.size, 0, none⟩) 1 1) 1 ([⟨9, 0, false⟩].flatMap mC2) (z3.alloc (.cells #[.int .u32 9, .int .i64 0, .bool false] 33))) := Sg.src_new Tryd.underlying25 _ _ 3 1 _ rfl (by decide)
        have hlm : M2.messages.length ≤ 1000 := by rw [← hM2]; cases b1 <;> decide
        go_wp2_with (refine Sg.wpList_appendO Mb.elG rfl (.tmp 23) (.tmp 25) 25 rfl rfl rfl (HXa.out _).o2 (HXa.out _).bel.size HSr.out (show M2.messages.length + 1 ≤ 1000000 by omega) ?_; intro s' c' n' w' hn h1 hkk; have HRw : Hid (RowT 28 w' p (mCs M2 a)) := (HXa.out _).row2 hkk; have q9 := HRw.out.c 9 _ rfl; have f9 := HRw.out.f 9; have HY : Hid (Mb W (w'.setCell ⟨p, 9, none⟩ (.slice s' n' c')) p (Lo.s2 true M2) { a with s2 := s', c2 := c' }) := (HXa.out _).app2 (xs := M2.messages ++ [(⟨9, 0, false⟩ : Mx.Msg)]) hkk (by rw [List.flatMap_append]; exact h1) (by rw [List.length_append]; exact hn); subst hn)
        go_meet
        case rel => exact ⟨_, HY⟩
    case rest =>
      clear HX a
      obtain ⟨a, HX⟩ := hcut
      generalize wc = z4 at HX ⊢
      subst hM2
      go_upto_if 30 with fail
      generalize hM3 : (Lo.s2 b2 (Lo.s1 b1 Lo.l14)) = M3 at HX
      go_cut [30] from 7 (fun _ wx => ∃ a', Hid (Mb W wx p (Lo.s3 b3 M3) a'))
      case first =>
        cases b3
        · go_wp2_with fail
          go_meet
          case rel => exact ⟨a, HX⟩
        · have qk : ∀ o, (z4.alloc o).cell? ⟨p, 8, none⟩ = some (.slice a.s1 M3.masters.length a.c1) := fun o => (HX.out.al o).row.c 8 _ rfl
          have fk : ∀ o, (z4.alloc o).frozen? ⟨p, 8, none⟩ = false := fun o => (HX.out.al o).row.f 8
          have HY : Hid (Mb W ((z4.alloc (.cells #[.int .i64 0, .int .i64 0] 3)).setCell ⟨p, 8, none⟩ (.slice (some ⟨z4.heap.size, 0, none⟩) 2 2)) p (Lo.s3 true M3) { a with s1 := some ⟨z4.heap.size, 0, none⟩, c1 := 2 }) := (HX.out.al _).put1 (xs := [0, 0]) (Mb.ol_lit 3 1 W.heap.size z4 2 _ rfl HX.out.bel.size (by decide)) rfl
          go_wp2_with fail
          go_meet
          case rel => exact ⟨_, HY⟩
      case rest =>
        clear HX a
        obtain ⟨a, HX⟩ := hcut
        generalize wc = z5 at HX ⊢
        subst hM3
        go_upto_if 35 with fail
        generalize hM4 : (Lo.s3 b3 (Lo.s2 b2 (Lo.s1 b1 Lo.l14))) = M4 at HX
        go_cut [35] from 7 (fun _ wx => ∃ a', Hid (Mb W wx p (Lo.s4 b4 M4) a'))
        case first =>
          cases b4
          · go_wp2_with fail
            go_meet
            case rel => exact ⟨a, HX⟩
          · have qk : ∀ o, (z5.alloc o).cell? ⟨p, 9, none⟩ = some (.slice a.s2 M4.messages.length a.c2) := fun o => (HX.out.al o).row.c 9 _ rfl
            have fk : ∀ o, (z5.alloc o).frozen? ⟨p, 9, none⟩ = false := fun o => (HX.out.al o).row.f 9
            have HY : Hid (Mb W ((z5.alloc (.cells #[.int .u32 99, .int .i64 2, .bool false] 33)).setCell ⟨p, 9, none⟩ (.slice (some ⟨z5.heap.size, 0, none⟩) 1 1)) p (Lo.s4 true M4) { a with s2 := some ⟨z5.heap.size, 0, none⟩, c2 := 1 }) := (HX.out.al _).put2 (xs := [⟨99, 2, false⟩]) (Mb.ol_lit 33 3 W.heap.size z5 1 _ rfl HX.out.bel.size (by decide)) rfl
            go_wp2_with fail
            go_meet
            case rel => exact ⟨_, HY⟩
        case rest =>
          clear HX a
          obtain ⟨a, HX⟩ := hcut
          generalize wc = z6 at HX ⊢
          subst hM4
          go_upto_if 41 with fail
          generalize hM5 : (Lo.s4 b4 (Lo.s3 b3 (Lo.s2 b2 (Lo.s1 b1 Lo.l14)))) = M5 at HX
          go_cut [41] from 7 (fun _ wx => ∃ a', Hid (Mb W wx p (Lo.s5 b5 M5) a'))
          case first =>
            cases b5
            · go_wp2_with fail
              go_meet
              case rel => exact ⟨a, HX⟩
            · have qk : ∀ o, (z6.alloc o).cell? ⟨p, 8, none⟩ = some (.slice a.s1 M5.masters.length a.c1) := fun o => (HX.out.al o).row.c 8 _ rfl
              have fk : ∀ o, (z6.alloc o).frozen? ⟨p, 8, none⟩ = false := fun o => (HX.out.al o).row.f 8
              have HY : Hid (Mb W ((z6.alloc (.cells #[.int .i64 2] 3)).setCell ⟨p, 8, none⟩ (.slice (some ⟨z6.heap.size, 0, none⟩) 1 1)) p (Lo.s5 true M5) { a with s1 := some ⟨z6.heap.size, 0, none⟩, c1 := 1 }) := (HX.out.al _).put1 (xs := [2]) (Mb.ol_lit 3 1 W.heap.size z6 1 _ rfl HX.out.bel.size (by decide)) rfl
              go_wp2_with fail
              go_meet
              case rel => exact ⟨_, HY⟩
          case rest =>
            clear HX a
            obtain ⟨a, HX⟩ := hcut
            generalize wc = z7 at HX ⊢
            subst hM5
            go_upto_if 46 with fail
            generalize hM6 : (Lo.s5 b5 (Lo.s4 b4 (Lo.s3 b3 (Lo.s2 b2 (Lo.s1 b1 Lo.l14))))) = M6 at HX
            go_cut [46] from 7 (fun _ wx => ∃ a', Hid (Mb W wx p (Lo.s6 b6 M6) a'))
            case first =>
              cases b6
              · go_wp2_with fail
                go_meet
                case rel => exact ⟨a, HX⟩
              · have qk : z7.cell? ⟨p, 3, none⟩ = some (.int .i64 M6.length) := HX.out.row.c 3 _ rfl
                have fk : z7.frozen? ⟨p, 3, none⟩ = false := HX.out.row.f 3
                have HY : Hid (Mb W (z7.setCell ⟨p, 3, none⟩ (.int .i64 37)) p (Lo.s6 true M6) a) := HX.out.word 3 _ rfl rfl rfl rfl
                go_wp2_with fail
                go_meet
                case rel => exact ⟨_, HY⟩
            case rest =>
              clear HX a
              obtain ⟨a, HX⟩ := hcut
              generalize wc = z8 at HX ⊢
              subst hM6
              replace HX : Hid (Mb W z8 p (Lo.M6 b1 b2 b3 b4 b5 b6) a) := HX
              go_upto_region 17 with fail
              cases b6
              · skip
                cases b5
                · skip
                  cases b4
                  · skip
                    cases b3
                    · skip
                      cases b2
                      · skip
                        cases b1
                        · skip
                          obtain ⟨y0, y1, y2, y3, y4, y5, y6, y7, y8, y9, y10⟩ := HX.out.row.mat
                          have hans : Lo.ans false false false false false false = (0, 0) := by simp [Lo.ans]
                          go_wp2_with fail
                          refine (HCk.out _ p a _ HX.out hans).mono ?_
                          rintro e v1 ⟨rfl, hb⟩
                          replace HX : Hid (Mb W v1 p (Lo.M6 false false false false false false) a) := HX.out.on hb
                          clear y0 y1 y10 y2 y3 y4 y5 y6 y7 y8 y9
                          clear hb hans
                          go_wp2
                          go_ret
                          exact ⟨rfl, HX.out.bel⟩
                        · skip
                          obtain ⟨y0, y1, y2, y3, y4, y5, y6, y7, y8, y9, y10⟩ := HX.out.row.mat
                          have hans : Lo.ans true false false false false false = (0, 145) := by simp [Lo.ans]
                          go_wp2_with fail
                          refine (HCk.out _ p a _ HX.out hans).mono ?_
                          rintro e v1 ⟨rfl, hb⟩
                          replace HX : Hid (Mb W v1 p (Lo.M6 true false false false false false) a) := HX.out.on hb
                          clear y0 y1 y10 y2 y3 y4 y5 y6 y7 y8 y9
                          clear hb hans
                          go_wp2
                          go_ret
                          exact ⟨rfl, HX.out.bel⟩
                      · skip
                        obtain ⟨y0, y1, y2, y3, y4, y5, y6, y7, y8, y9, y10⟩ := HX.out.row.mat
                        have hans : Lo.ans b1 true false false false false = (1, 142) := by simp [Lo.ans]
                        go_wp2_with fail
                        refine (HCk.out _ p a _ HX.out hans).mono ?_
                        rintro e v1 ⟨rfl, hb⟩
                        replace HX : Hid (Mb W v1 p (Lo.M6 b1 true false false false false) a) := HX.out.on hb
                        clear y0 y1 y10 y2 y3 y4 y5 y6 y7 y8 y9
                        clear hb hans
                        go_wp2
                        go_ret
                        exact ⟨rfl, HX.out.bel⟩
                    · skip
                      obtain ⟨y0, y1, y2, y3, y4, y5, y6, y7, y8, y9, y10⟩ := HX.out.row.mat
                      have hans : Lo.ans b1 b2 true false false false = (1, 142) := by simp [Lo.ans]
                      go_wp2_with fail
                      refine (HCk.out _ p a _ HX.out hans).mono ?_
                      rintro e v1 ⟨rfl, hb⟩
                      replace HX : Hid (Mb W v1 p (Lo.M6 b1 b2 true false false false) a) := HX.out.on hb
                      clear y0 y1 y10 y2 y3 y4 y5 y6 y7 y8 y9
                      clear hb hans
                      go_wp2
                      go_ret
                      exact ⟨rfl, HX.out.bel⟩
                  · skip
                    obtain ⟨y0, y1, y2, y3, y4, y5, y6, y7, y8, y9, y10⟩ := HX.out.row.mat
                    have hans : Lo.ans b1 b2 b3 true false false = (0, 141) := by simp [Lo.ans]
                    go_wp2_with fail
                    refine (HCk.out _ p a _ HX.out hans).mono ?_
                    rintro e v1 ⟨rfl, hb⟩
                    replace HX : Hid (Mb W v1 p (Lo.M6 b1 b2 b3 true false false) a) := HX.out.on hb
                    clear y0 y1 y10 y2 y3 y4 y5 y6 y7 y8 y9
                    clear hb hans
                    go_wp2
                    go_ret
                    exact ⟨rfl, HX.out.bel⟩
                · skip
                  obtain ⟨y0, y1, y2, y3, y4, y5, y6, y7, y8, y9, y10⟩ := HX.out.row.mat
                  have hans : Lo.ans b1 b2 b3 b4 true false = (0, 141) := by simp [Lo.ans]
                  go_wp2_with fail
                  refine (HCk.out _ p a _ HX.out hans).mono ?_
                  rintro e v1 ⟨rfl, hb⟩
                  replace HX : Hid (Mb W v1 p (Lo.M6 b1 b2 b3 b4 true false) a) := HX.out.on hb
                  clear y0 y1 y10 y2 y3 y4 y5 y6 y7 y8 y9
                  clear hb hans
                  go_wp2
                  go_ret
                  exact ⟨rfl, HX.out.bel⟩
              · skip
                cases b1
                · skip
                  obtain ⟨y0, y1, y2, y3, y4, y5, y6, y7, y8, y9, y10⟩ := HX.out.row.mat
                  have hans : Lo.ans false b2 b3 b4 b5 true = (0, 140) := by simp [Lo.ans]
                  go_wp2_with fail
                  refine (HCk.out _ p a _ HX.out hans).mono ?_
                  rintro e v1 ⟨rfl, hb⟩
                  replace HX : Hid (Mb W v1 p (Lo.M6 false b2 b3 b4 b5 true) a) := HX.out.on hb
                  clear y0 y1 y10 y2 y3 y4 y5 y6 y7 y8 y9
                  clear hb hans
                  go_wp2
                  go_ret
                  exact ⟨rfl, HX.out.bel⟩
                · skip
                  obtain ⟨y0, y1, y2, y3, y4, y5, y6, y7, y8, y9, y10⟩ := HX.out.row.mat
                  have hans : Lo.ans true b2 b3 b4 b5 true = (0, 120) := by simp [Lo.ans]
                  go_wp2_with fail
                  refine (HCk.out _ p a _ HX.out hans).mono ?_
                  rintro e v1 ⟨rfl, hb⟩
                  replace HX : Hid (Mb W v1 p (Lo.M6 true b2 b3 b4 b5 true) a) := HX.out.on hb
                  clear y0 y1 y10 y2 y3 y4 y5 y6 y7 y8 y9
                  clear hb hans
                  go_wp2
                  go_ret
                  exact ⟨rfl, HX.out.bel⟩
end Go.Proofs.YtdaiooelglablabDoor.checkOrder
