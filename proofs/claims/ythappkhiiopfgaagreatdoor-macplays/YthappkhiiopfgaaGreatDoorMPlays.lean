/- MacPlays: every row of asks, cancels and bits on the wire: what the node drives, what it tells, its counters, behind each bit, for every slice of at most 16 steps of at most 200 levels (others are let by); no condition. -/
import Derived.Test.YthappkhiiopfgaaGreatDoorMp
import Derived.Test.YthappkhiiopfgaaGreatDoorMs
import Derived.Test.YthappkhiiopfgaaGreatDoorFo
import Derived.Deep.RegionHeld3
import Derived.Deep.CutBlock
import Derived.ProofKit
import Derived.OpenShut
namespace Go.Proofs.YthappkhiiopfgaaGreatDoor.macPlays
open Go.ChangeShapes Go.WideShapes Go.ChangeAt Go.RowKit
set_option linter.unusedVariables false
variable {At : World → Nat → (Nat → Prop) → Mm.St → Prop}
/-- The steps' cells, as the walk meets them. -/
def StepRow (W : World) (s : Option Addr) (len : Nat) (wh : Nat → Int) (fr : Nat → Cm.Fr) (lv : Nat → ByteArray) : Prop := len = 0 ∨ ∃ b off, s = some ⟨b, off, none⟩ ∧ ∀ i, i < len →
  W.cell? ⟨b, off + i * 6, none⟩ = some (.int .i64 (wh i)) ∧ W.cell? ⟨b, off + i * 6 + 1, none⟩ = some (.bool (fr i).1) ∧ W.cell? ⟨b, off + i * 6 + 2, none⟩ = some (.int .u32 ((fr i).2.1 : Int)) ∧ W.cell? ⟨b, off + i * 6 + 3, none⟩ = some (.bool (fr i).2.2.1) ∧ W.cell? ⟨b, off + i * 6 + 4, none⟩ = some (.string ⟨(fr i).2.2.2.toArray⟩) ∧ W.cell? ⟨b, off + i * 6 + 5, none⟩ = some (.string (lv i)) ∧ (fr i).2.1 < 4294967296
/-- The condition may be sharpened in the midst of a region. -/
theorem wpAnyH_change {P : Program} {ops : Array Oper} {Q : Exit → Act → World → Prop} {md : Region.Mode} {S S2 : World → Prop} (hs : ∀ w, S2 w → S w) : ∀ {fuel : Nat} {listed : Array Bool} {a : Act} {w : World}, wpAnyH P md ops Q S2 fuel listed a w → wpAnyH P md ops Q S fuel listed a w
  | 0, _, _, _, h => h
  | _ + 1, _, _, _, h => ⟨h.1, fun i hi => wpOp_mono (fun _ _ h' => ⟨hs _ h'.1, wpAnyH_change hs h'.2⟩) (h.2 i hi)⟩
theorem takeL {P : Program} {ops : Array Oper} {Q : Exit → Act → World → Prop} {md : Region.Mode} {S : World → Prop} {i d : Nat} {op : Op} {ty : TypeId} {pos : String} {after : Array Edge} {guard : Option (Nat × Bool)} {v : Value} {fuel : Nat} {listed : Array Bool} {a : Act} {w : World} (hi : ops[i]? = some ⟨some d, op, ty, pos, after, guard⟩)
    (hs : Region.noSelect ops = true) (hf : Region.free md ops listed i = true) (hr : (Region.ready md ops listed).contains i = true) (hQ : ∀ c a w, Q (.panic c) (a.put (some d) v) w → Q (.panic c) a w)
    (hw : Region.wanted ⟨some d, op, ty, pos, after, guard⟩ (yielded ops a.tmps) = true) (hy : ∀ w, S w → (execOp a.eval ⟨some d, op, ty, pos, after, guard⟩).run P w = .ok (.value v) w) (hS : S w)
    (h : wpAnyH P md ops Q S fuel (listed.setIfInBounds i true) (a.put (some d) v) w) : wpAnyH P md ops Q S (fuel + 1) listed a w :=
  wpAnyH_take hi hs hf hr hQ (Or.inl ⟨hw, hy⟩) hS h
theorem consL {P : Program} {ops : Array Oper} {Q : Exit → Act → World → Prop} {md : Region.Mode} {S : World → Prop} {i d : Nat} {op : Op} {ty : TypeId} {pos : String} {after : Array Edge} {guard : Option (Nat × Bool)} {fuel : Nat} {listed : Array Bool} {a : Act} {w : World} (hi : ops[i]? = some ⟨some d, op, ty, pos, after, guard⟩) (hr : Region.ready md ops listed = [i])
    (h : ∀ K' : Act → World → Prop, Shut (∀ a w, S w → (S w → wpAnyH P md ops Q S fuel (listed.setIfInBounds i true) a w) → K' a w) → if Region.wanted ⟨some d, op, ty, pos, after, guard⟩ (yielded ops a.tmps) = true then Oper.wp P ⟨some d, op, ty, pos, after, guard⟩ a w K' Q else K' (a.put (some d) undef) w) : wpAnyH P md ops Q S (fuel + 1) listed a w :=
  wpAnyH_ready hr (by simp) (AllReadyH.cons hi h AllReadyH.nil)
theorem sample_short (m : Mm.St) (c : Bool) : (Mm.sample m c).2.length ≤ 3 := by
  have hb : ∀ m e, (Mm.bad m e).2.length ≤ 2 := fun m e => by unfold Mm.bad; split <;> simp
  have hh := hearing_short
  unfold Mm.sample
  split
  · split <;> simp [Mm.start]
  · split
    · unfold Mm.sending
      split
      · have := hh { m with snd := false } c; simp only [List.length_cons]; omega
      · split
        · exact Nat.le_trans (hb _ _) (by decide)
        · split
          · exact Nat.le_trans (hb _ _) (by decide)
          · split <;> simp
    · exact Nat.le_trans (hh m c) (by decide)
  · split <;> simp
  · simp
  · split
    · simp [Mm.start]
    · split <;> simp
  · simp
theorem phI_idle (ph : Mm.Ph) : (phI ph == 0) = decide (ph = .idle) := by cases ph <;> rfl
theorem drive_byte (m : Mm.St) : ∃ d : UInt8, (if Mm.drive m then (49 : Int) else 48) = (d.toNat : Int) := by
  cases Mm.drive m
  · exact ⟨48, rfl⟩
  · exact ⟨49, rfl⟩
set_option maxRecDepth 100000 in
set_option maxHeartbeats 4000000 in
theorem row (S : MacSpec At) (HK : AckSpec) (s : Option Addr) (len cap : Nat) (wh : Nat → Int) (fr : Nat → Cm.Fr) (lv : Nat → ByteArray) (hl : len ≤ 16) (W : World) (hT : Tab W) (h1 : Hid (StepRow W s len wh fr lv)) :
    Calls Tryz.prog 3 #[.slice s len cap] W fun e w' => e = .returned (.bool true) ∧ Below W.heap.size W w' := by
  have HT : Hid (Tab W) := hT
  have hk := known7_any S HK W hT
  clear hT HK
  go_enter Tryz.func3, Tryz.ntmps3
  go_wp2_with fail
  refine hk.mono ?_
  rintro e w0 ⟨rfl, hb0⟩
  clear hk
  go_wp2_with fail
  refine (pr_new1 S hb0.size (HT.out.below hb0)).mono ?_
  rintro e w1 ⟨p, rfl, O, hb1⟩
  have hb2 : Below W.heap.size W w1 := hb0.trans (hb1.mono hb0.size)
  clear hb0 hb1
  go_wp2_with fail
  refine (pr_new2 S O hb2.size).mono ?_
  rintro e w2 ⟨q, rfl, P2, hb3⟩
  have PB : Hid (Pr At W.heap.size w2 p Mm.fresh q Mm.fresh) := P2
  have hA : Hid (Below W.heap.size W w2) := hb2.trans (hb3.mono hb2.size)
  clear O hb2 hb3 P2
  go_wp2_with fail
  go_loopw [5] (fun i wr => ∃ (k : Nat) (m : Mm.St), k ≤ len ∧ i = .int .i64 k ∧ Hid (Pr At W.heap.size wr p m q m) ∧ Hid (Below W.heap.size W wr)) (fun i _ => len - (intOf i).toNat)
  case atStart => exact ⟨0, _, Nat.zero_le _, rfl, PB, hA⟩
  case round =>
    clear hA PB
    obtain ⟨k, m, hk, rfl, PB, hA⟩ := hrel
    by_cases hlt : k < len
    · obtain h0 | ⟨b1, o1, rfl, hc1⟩ := h1.out
      · omega
      have HX : Hid (∀ w : World, Below W.heap.size W w → w.cell? ⟨b1, o1 + k * 6, none⟩ = some (.int .i64 (wh k)) ∧ w.cell? ⟨b1, o1 + k * 6 + 1, none⟩ = some (.bool (fr k).1) ∧ w.cell? ⟨b1, o1 + k * 6 + 2, none⟩ = some (.int .u32 ((fr k).2.1 : Int)) ∧ w.cell? ⟨b1, o1 + k * 6 + 3, none⟩ = some (.bool (fr k).2.2.1) ∧ w.cell? ⟨b1, o1 + k * 6 + 4, none⟩ = some (.string ⟨(fr k).2.2.2.toArray⟩) ∧ w.cell? ⟨b1, o1 + k * 6 + 5, none⟩ = some (.string (lv k))) := fun w hb => by
        obtain ⟨a0, a1, a2, a3, a4, a5, _⟩ := hc1 k hlt
        have hb1 := block_lt_of_cell a0
        exact ⟨(hb.cell (p := ⟨b1, o1 + k * 6, none⟩) hb1).trans a0, (hb.cell (p := ⟨b1, o1 + k * 6 + 1, none⟩) hb1).trans a1, (hb.cell (p := ⟨b1, o1 + k * 6 + 2, none⟩) hb1).trans a2, (hb.cell (p := ⟨b1, o1 + k * 6 + 3, none⟩) hb1).trans a3, (hb.cell (p := ⟨b1, o1 + k * 6 + 4, none⟩) hb1).trans a4, (hb.cell (p := ⟨b1, o1 + k * 6 + 5, none⟩) hb1).trans a5⟩
      have hfn : (fr k).2.1 < 4294967296 := (hc1 k hlt).2.2.2.2.2.2
      clear hc1 h1
      generalize fr k = f at *
      generalize lv k = T at *
      generalize wh k = wk at *
      obtain ⟨x0, x1, x2, x3, x4, x5⟩ := HX.out _ hA.out
      by_cases hX : 200 < T.size
      · go_wp2
        go_ret
        exact ⟨rfl, hA.out⟩
      have hz : (ByteArray.mk f.2.2.2.toArray).size = f.2.2.2.length := by show f.2.2.2.toArray.size = _; simp
      by_cases hY : 20 < f.2.2.2.length
      · go_wp2
        go_ret
        exact ⟨rfl, hA.out⟩
      go_upto_block 2 with fail
      go_cut [] from 45 to 68 (fun wx => ∃ m' : Mm.St, Hid (Pr At W.heap.size wx p m' q m') ∧ Hid (Below W.heap.size W wx))
      case first =>
        by_cases w0 : wk = 0
        · subst w0
          have HF : Hid (∀ w : World, Below W.heap.size W w → w.cell? ⟨b1, o1 + k * 6 + 1, none⟩ = some (.bool f.1) ∧ w.cell? ⟨b1, o1 + k * 6 + 2, none⟩ = some (.int .u32 (f.2.1 : Int)) ∧ w.cell? ⟨b1, o1 + k * 6 + 3, none⟩ = some (.bool f.2.2.1) ∧ w.cell? ⟨b1, o1 + k * 6 + 4, none⟩ = some (.string ⟨f.2.2.2.toArray⟩)) := fun w hb => ⟨(HX.out w hb).2.1, (HX.out w hb).2.2.1, (HX.out w hb).2.2.2.1, (HX.out w hb).2.2.2.2.1⟩
          clear HX x1 x2 x3 x4
          go_wp2_with fail
          go_region_held3 (fun w' => w'.cell? ⟨b1, o1 + k * 6 + 1, none⟩ = some (.bool f.1) ∧ w'.cell? ⟨b1, o1 + k * 6 + 2, none⟩ = some (.int .u32 (f.2.1 : Int)) ∧ w'.cell? ⟨b1, o1 + k * 6 + 3, none⟩ = some (.bool f.2.2.1) ∧ w'.cell? ⟨b1, o1 + k * 6 + 4, none⟩ = some (.string ⟨f.2.2.2.toArray⟩))
            (exact HF.out _ (by first | exact hA.out | exact hA.out.drew))
            (first
              | (go_at_call 7; refine (pr_ask1 S f hfn (by omega) (PB.out.on S (Below.refl _ _).drew) (hA.out.drew.size) (HT.out.below hA.out.drew)).mono ?_; rintro e w' ⟨rfl, P', hb'⟩; replace hA : Hid (Below W.heap.size W w') := hA.out.drew.trans hb'; replace PB : Hid (Pr At W.heap.size w' p (Mm.ask m f).2 q m) := P'; clear P' hb')
              | (go_at_call 8; refine (pr_ask2 S f PB.out hA.out.size).mono ?_; rintro e w' ⟨rfl, P', hb'⟩; replace hA : Hid (Below W.heap.size W w') := hA.out.trans hb'; replace PB : Hid (Pr At W.heap.size w' p (Mm.ask m f).2 q (Mm.ask m f).2) := P'; clear P' hb'))
          all_goals
            go_wp2_with fail
            go_meet
            case rel => exact ⟨(Mm.ask m f).2, PB, hA⟩
        · by_cases w1 : wk = 1
          · subst w1
            go_wp2_with fail
            refine (pr_cancel1 S PB.out hA.out.size (HT.out.below hA.out)).mono ?_
            rintro e w' ⟨rfl, P', hb'⟩
            replace hA : Hid (Below W.heap.size W w') := hA.out.trans hb'
            replace PB : Hid (Pr At W.heap.size w' p (Mm.cancel m).2 q m) := P'
            clear P' hb' x0 x1 x2 x3 x4 x5
            go_wp2_with fail
            refine (pr_cancel2 S PB.out hA.out.size).mono ?_
            rintro e w'' ⟨rfl, P', hb'⟩
            replace hA : Hid (Below W.heap.size W w'') := hA.out.trans hb'
            replace PB : Hid (Pr At W.heap.size w'' p (Mm.cancel m).2 q (Mm.cancel m).2) := P'
            clear P' hb'
            go_wp2_with fail
            go_meet
            case rel => exact ⟨(Mm.cancel m).2, PB, hA⟩
          · have w0' : (wk == 0) = false := beq_eq_false_iff_ne.2 w0
            have w1' : (wk == 1) = false := beq_eq_false_iff_ne.2 w1
            clear w0 w1
            go_wp2
            go_meet
            case rel => exact ⟨m, PB, hA⟩
      case rest =>
        clear PB hA x0 x1 x2 x3 x4 x5
        obtain ⟨m1, PB, hA⟩ := hcut
        have HL : Hid (∀ w : World, Below W.heap.size W w → w.cell? ⟨b1, o1 + k * 6 + 5, none⟩ = some (.string T)) := fun w hb => (HX.out w hb).2.2.2.2.2
        clear HX m hfn hz hY
        go_wp2_with fail
        go_loopw [6] (fun i wr => ∃ (j : Nat) (m : Mm.St), j ≤ T.size ∧ i = .int .i64 j ∧ Hid (Pr At W.heap.size wr p m q m) ∧ Hid (Below W.heap.size W wr)) (fun i _ => T.size - (intOf i).toNat)
        case atStart => exact ⟨0, _, Nat.zero_le _, rfl, PB, hA⟩
        case round =>
          clear hA PB
          obtain ⟨j, m, hj, rfl, PB, hA⟩ := hrel
          have x5 := HL.out _ hA.out
          by_cases hjt : j < T.size
          · obtain ⟨dd, hd⟩ := drive_byte m
            have HD : Hid ((if Mm.drive m then (49 : Int) else 48) = (dd.toNat : Int)) := hd
            clear hd
            have HIx := fun W => run_idx 9 Tryz.underlying9 T j _ rfl hjt W
            obtain ⟨cc, hcc⟩ : ∃ cc : UInt8, cc = if (T[j].toNat : Int) = 119 then dd else T[j] := ⟨_, rfl⟩
            go_wp2_with fail
            refine (pr_drive2 S HD.out PB.out hA.out.size).mono ?_
            rintro e w3 ⟨rfl, P', hb'⟩
            replace hA : Hid (Below W.heap.size W w3) := hA.out.trans hb'
            replace PB : Hid (Pr At W.heap.size w3 p m q m) := P'
            clear P' hb' x5
            have x5 := HL.out _ hA.out
            go_upto_if 89 with fail
            go_cut [8] from 90 to 90 (fun c wx => c = .int .u8 (cc.toNat : Int) ∧ Hid (Pr At W.heap.size wx p m q m) ∧ Hid (Below W.heap.size W wx))
            case first =>
              by_cases hc : (T[j].toNat : Int) = 119
              · rw [if_pos hc] at hcc
                subst hcc
                have hc' : ((T[j].toNat : Int) == 119) = true := beq_iff_eq.2 hc
                clear hc
                go_wp2
                go_meet
                case rel => exact ⟨rfl, PB, hA⟩
              · rw [if_neg hc] at hcc
                have hc' : ((T[j].toNat : Int) == 119) = false := beq_eq_false_iff_ne.2 hc
                clear hc
                go_wp2
                go_meet
                case rel => exact ⟨by rw [hcc], PB, hA⟩
            case rest =>
              clear PB hA x5 hcc HIx
              obtain ⟨rfl, PB, hA⟩ := hcut
              have hph := phI_idle (Mm.sample m (cc != 48)).1.ph
              go_wp2_with fail
              refine wp_region_held_drew (S := fun _ => True) (by kernel_rfl) True.intro (fun hHeld => ?_)
              refine takeL (i := 0) (d := 91) (v := ?_) rfl (by kernel_rfl) (by kernel_rfl) (by kernel_rfl) (fun _ _ _ h => h) (by rfl) ?_ (by assumption) ?_
              rotate_left
              · intro w hSw; (try dsimp only at hSw); go_simp; (try with_reducible rfl)
              simp only [Act.put, List.setIfInBounds_toArray, List.set_cons_zero, List.set_cons_succ]
              refine takeL (i := 2) (d := 93) (v := ?_) rfl (by kernel_rfl) (by kernel_rfl) (by kernel_rfl) (fun _ _ _ h => h) (by rfl) ?_ (by assumption) ?_
              rotate_left
              · intro w hSw; (try dsimp only at hSw); go_simp; (try with_reducible rfl)
              simp only [Act.put, List.setIfInBounds_toArray, List.set_cons_zero, List.set_cons_succ]
              refine consL (i := 1) (d := 92) rfl (by kernel_rfl) (fun K hK => ?_)
              go_simp
              refine (pr_drive1 S HD.out (PB.out.on S (Below.refl _ _).drew) hA.out.drew.size (HT.out.below hA.out.drew)).mono ?_
              rintro e w' ⟨rfl, P', hb'⟩
              replace hA : Hid (Below W.heap.size W w') := (by first | exact hA.out.trans hb' | exact hA.out.drew.trans hb')
              replace PB : Hid (Pr At W.heap.size w' p m q m) := P'
              clear P' hb'
              try go_wp2_with fail
              refine hK.out _ _ (True.intro) (fun hHeld => ?_)
              clear hK K
              refine takeL (i := 3) (d := 94) (v := ?_) rfl (by kernel_rfl) (by kernel_rfl) (by kernel_rfl) (fun _ _ _ h => h) (by rfl) ?_ (by assumption) ?_
              rotate_left
              · intro w hSw; (try dsimp only at hSw); go_simp; (try with_reducible rfl)
              simp only [Act.put, List.setIfInBounds_toArray, List.set_cons_zero, List.set_cons_succ]
              refine takeL (i := 4) (d := 95) (v := ?_) rfl (by kernel_rfl) (by kernel_rfl) (by kernel_rfl) (fun _ _ _ h => h) (by rfl) ?_ (by assumption) ?_
              rotate_left
              · intro w hSw; (try dsimp only at hSw); go_simp; (try with_reducible rfl)
              simp only [Act.put, List.setIfInBounds_toArray, List.set_cons_zero, List.set_cons_succ]
              refine takeL (i := 5) (d := 96) (v := ?_) rfl (by kernel_rfl) (by kernel_rfl) (by kernel_rfl) (fun _ _ _ h => h) (by rfl) ?_ (by assumption) ?_
              rotate_left
              · intro w hSw; (try dsimp only at hSw); go_simp; (try with_reducible rfl)
              simp only [Act.put, List.setIfInBounds_toArray, List.set_cons_zero, List.set_cons_succ]
              refine takeL (i := 6) (d := 97) (v := ?_) rfl (by kernel_rfl) (by kernel_rfl) (by kernel_rfl) (fun _ _ _ h => h) (by rfl) ?_ (by assumption) ?_
              rotate_left
              · intro w hSw; (try dsimp only at hSw); go_simp; (try with_reducible rfl)
              simp only [Act.put, List.setIfInBounds_toArray, List.set_cons_zero, List.set_cons_succ]
              refine takeL (i := 8) (d := 99) (v := ?_) rfl (by kernel_rfl) (by kernel_rfl) (by kernel_rfl) (fun _ _ _ h => h) (by rfl) ?_ (by assumption) ?_
              rotate_left
              · intro w hSw; (try dsimp only at hSw); go_simp; (try with_reducible rfl)
              simp only [Act.put, List.setIfInBounds_toArray, List.set_cons_zero, List.set_cons_succ]
              refine takeL (i := 9) (d := 100) (v := ?_) rfl (by kernel_rfl) (by kernel_rfl) (by kernel_rfl) (fun _ _ _ h => h) (by rfl) ?_ (by assumption) ?_
              rotate_left
              · intro w hSw; (try dsimp only at hSw); go_simp; (try with_reducible rfl)
              simp only [Act.put, List.setIfInBounds_toArray, List.set_cons_zero, List.set_cons_succ]
              refine consL (i := 7) (d := 98) rfl (by kernel_rfl) (fun K hK => ?_)
              go_simp
              refine (pr_sample1 S cc PB.out hA.out.size (HT.out.below hA.out)).mono ?_
              rintro e w' ⟨s1, c1, rfl, E1', P', hb'⟩
              replace hA : Hid (Below W.heap.size W w') := (by first | exact hA.out.trans hb' | exact hA.out.drew.trans hb')
              have E1 : Hid (EvAt W.heap.size w' s1 c1 (Mm.sample m (cc != 48)).2) := E1'
              replace PB : Hid (PrE At W.heap.size w' p (Mm.sample m (cc != 48)).1 q m s1) := P'
              clear P' hb' E1'
              try go_wp2_with fail
              refine hK.out _ _ (True.intro) (fun hHeld => ?_)
              clear hK K
              refine consL (i := 10) (d := 101) rfl (by kernel_rfl) (fun K hK => ?_)
              go_simp
              refine (pr_sample2 S cc PB.out E1.out hA.out.size).mono ?_
              rintro e w' ⟨s2, c2, rfl, E2', E1', P', hb'⟩
              replace hA : Hid (Below W.heap.size W w') := (by first | exact hA.out.trans hb' | exact hA.out.drew.trans hb')
              replace E1 : Hid (EvAt W.heap.size w' s1 c1 (Mm.sample m (cc != 48)).2) := E1'
              have E2 : Hid (EvAt W.heap.size w' s2 c2 (Mm.sample m (cc != 48)).2) := E2'
              replace PB : Hid (Pr At W.heap.size w' p (Mm.sample m (cc != 48)).1 q (Mm.sample m (cc != 48)).1) := P'
              clear P' hb' E1' E2'
              try go_wp2_with fail
              refine hK.out _ _ (True.intro) (fun hHeld => ?_)
              clear hK K
              refine consL (i := 11) (d := 102) rfl (by kernel_rfl) (fun K hK => ?_)
              go_simp
              refine (same_any W.heap.size _ s1 s2 c1 c2 _ E1.out E2.out (by have := sample_short m (cc != 48); omega)).mono ?_
              rintro e w' ⟨rfl, hb''⟩
              have hb' := hb''.mono hA.out.size
              replace PB : Hid (Pr At W.heap.size w' p (Mm.sample m (cc != 48)).1 q (Mm.sample m (cc != 48)).1) := PB.out.on S hb''
              replace hA : Hid (Below W.heap.size W w') := (by first | exact hA.out.trans hb' | exact hA.out.drew.trans hb')
              clear hb' hb'' E1 E2
              try go_wp2_with fail
              refine hK.out _ _ (True.intro) (fun hHeld => ?_)
              clear hK K
              refine takeL (i := 12) (d := 103) (v := ?_) rfl (by kernel_rfl) (by kernel_rfl) (by kernel_rfl) (fun _ _ _ h => h) (by rfl) ?_ (by assumption) ?_
              rotate_left
              · intro w hSw; (try dsimp only at hSw); go_simp; (try with_reducible rfl)
              simp only [Act.put, List.setIfInBounds_toArray, List.set_cons_zero, List.set_cons_succ]
              refine takeL (i := 13) (d := 104) (v := ?_) rfl (by kernel_rfl) (by kernel_rfl) (by kernel_rfl) (fun _ _ _ h => h) (by rfl) ?_ (by assumption) ?_
              rotate_left
              · intro w hSw; (try dsimp only at hSw); go_simp; (try with_reducible rfl)
              simp only [Act.put, List.setIfInBounds_toArray, List.set_cons_zero, List.set_cons_succ]
              refine takeL (i := 14) (d := 105) (v := ?_) rfl (by kernel_rfl) (by kernel_rfl) (by kernel_rfl) (fun _ _ _ h => h) (by rfl) ?_ (by assumption) ?_
              rotate_left
              · intro w hSw; (try dsimp only at hSw); go_simp; (try with_reducible rfl)
              simp only [Act.put, List.setIfInBounds_toArray, List.set_cons_zero, List.set_cons_succ]
              refine wpAnyH_change (S2 := fun w' => w'.cell? ⟨q, 14, none⟩ = some (.int .i64 (Mm.sample m (cc != 48)).1.cs) ∧ w'.cell? ⟨q, 15, none⟩ = some (.int .i64 (Mm.sample m (cc != 48)).1.cg) ∧ w'.cell? ⟨q, 0, none⟩ = some (.int .i64 (phI (Mm.sample m (cc != 48)).1.ph))) (fun _ _ => True.intro) ?_
              clear hHeld
              have hHeld := And.intro PB.out.sent (And.intro PB.out.got PB.out.state)
              refine takeL (i := 15) (d := 106) (v := ?_) rfl (by kernel_rfl) (by kernel_rfl) (by kernel_rfl) (fun _ _ _ h => h) (by rfl) ?_ (by assumption) ?_
              rotate_left
              · intro w hSw; (try dsimp only at hSw); go_simp; (try with_reducible rfl)
              simp only [Act.put, List.setIfInBounds_toArray, List.set_cons_zero, List.set_cons_succ]
              refine takeL (i := 17) (d := 108) (v := ?_) rfl (by kernel_rfl) (by kernel_rfl) (by kernel_rfl) (fun _ _ _ h => h) (by rfl) ?_ (by assumption) ?_
              rotate_left
              · intro w hSw; (try dsimp only at hSw); go_simp; (try with_reducible rfl)
              simp only [Act.put, List.setIfInBounds_toArray, List.set_cons_zero, List.set_cons_succ]
              refine takeL (i := 18) (d := 109) (v := ?_) rfl (by kernel_rfl) (by kernel_rfl) (by kernel_rfl) (fun _ _ _ h => h) (by rfl) ?_ (by assumption) ?_
              rotate_left
              · intro w hSw; (try dsimp only at hSw); go_simp; (try with_reducible rfl)
              simp only [Act.put, List.setIfInBounds_toArray, List.set_cons_zero, List.set_cons_succ]
              refine takeL (i := 19) (d := 110) (v := ?_) rfl (by kernel_rfl) (by kernel_rfl) (by kernel_rfl) (fun _ _ _ h => h) (by rfl) ?_ (by assumption) ?_
              rotate_left
              · intro w hSw; (try dsimp only at hSw); go_simp; (try with_reducible rfl)
              simp only [Act.put, List.setIfInBounds_toArray, List.set_cons_zero, List.set_cons_succ]
              refine takeL (i := 20) (d := 111) (v := ?_) rfl (by kernel_rfl) (by kernel_rfl) (by kernel_rfl) (fun _ _ _ h => h) (by rfl) ?_ (by assumption) ?_
              rotate_left
              · intro w hSw; (try dsimp only at hSw); go_simp; (try with_reducible rfl)
              simp only [Act.put, List.setIfInBounds_toArray, List.set_cons_zero, List.set_cons_succ]
              refine consL (i := 16) (d := 107) rfl (by kernel_rfl) (fun K hK => ?_)
              go_simp
              refine (pr_counts1 S PB.out hA.out.size (HT.out.below hA.out)).mono ?_
              rintro e w' ⟨rfl, P', hb'⟩
              replace hA : Hid (Below W.heap.size W w') := (by first | exact hA.out.trans hb' | exact hA.out.drew.trans hb')
              replace PB : Hid (Pr At W.heap.size w' p (Mm.sample m (cc != 48)).1 q (Mm.sample m (cc != 48)).1) := P'
              clear P' hb' hHeld
              try go_wp2_with fail
              refine hK.out _ _ (⟨PB.out.sent, PB.out.got, PB.out.state⟩) (fun hHeld => ?_)
              clear hK K
              refine takeL (i := 21) (d := 112) (v := ?_) rfl (by kernel_rfl) (by kernel_rfl) (by kernel_rfl) (fun _ _ _ h => h) (by rfl) ?_ (by assumption) ?_
              rotate_left
              · intro w hSw; (try dsimp only at hSw); go_simp; (try with_reducible rfl)
              simp only [Act.put, List.setIfInBounds_toArray, List.set_cons_zero, List.set_cons_succ]
              refine takeL (i := 22) (d := 113) (v := ?_) rfl (by kernel_rfl) (by kernel_rfl) (by kernel_rfl) (fun _ _ _ h => h) (by rfl) ?_ (by assumption) ?_
              rotate_left
              · intro w hSw; (try dsimp only at hSw); go_simp; (try with_reducible rfl)
              simp only [Act.put, List.setIfInBounds_toArray, List.set_cons_zero, List.set_cons_succ]
              refine takeL (i := 23) (d := 114) (v := ?_) rfl (by kernel_rfl) (by kernel_rfl) (by kernel_rfl) (fun _ _ _ h => h) (by rfl) ?_ (by assumption) ?_
              rotate_left
              · intro w hSw; (try dsimp only at hSw); go_simp; (try with_reducible rfl)
              simp only [Act.put, List.setIfInBounds_toArray, List.set_cons_zero, List.set_cons_succ]
              refine takeL (i := 24) (d := 115) (v := ?_) rfl (by kernel_rfl) (by kernel_rfl) (by kernel_rfl) (fun _ _ _ h => h) (by rfl) ?_ (by assumption) ?_
              rotate_left
              · intro w hSw; (try dsimp only at hSw); go_simp; (try with_reducible rfl)
              simp only [Act.put, List.setIfInBounds_toArray, List.set_cons_zero, List.set_cons_succ]
              refine takeL (i := 26) (d := 117) (v := ?_) rfl (by kernel_rfl) (by kernel_rfl) (by kernel_rfl) (fun _ _ _ h => h) (by rfl) ?_ (by assumption) ?_
              rotate_left
              · intro w hSw; (try dsimp only at hSw); go_simp; (try with_reducible rfl)
              simp only [Act.put, List.setIfInBounds_toArray, List.set_cons_zero, List.set_cons_succ]
              refine consL (i := 25) (d := 116) rfl (by kernel_rfl) (fun K hK => ?_)
              go_simp
              refine (pr_busy1 S PB.out hA.out.size (HT.out.below hA.out)).mono ?_
              rintro e w' ⟨rfl, P', hb'⟩
              replace hA : Hid (Below W.heap.size W w') := (by first | exact hA.out.trans hb' | exact hA.out.drew.trans hb')
              replace PB : Hid (Pr At W.heap.size w' p (Mm.sample m (cc != 48)).1 q (Mm.sample m (cc != 48)).1) := P'
              clear P' hb' hHeld
              try go_wp2_with fail
              refine hK.out _ _ (⟨PB.out.sent, PB.out.got, PB.out.state⟩) (fun hHeld => ?_)
              clear hK K
              refine consL (i := 27) (d := 118) rfl (by kernel_rfl) (fun K hK => ?_)
              go_simp
              refine (pr_busy2 S PB.out hA.out.size).mono ?_
              rintro e w' ⟨rfl, P', hb'⟩
              replace hA : Hid (Below W.heap.size W w') := (by first | exact hA.out.trans hb' | exact hA.out.drew.trans hb')
              replace PB : Hid (Pr At W.heap.size w' p (Mm.sample m (cc != 48)).1 q (Mm.sample m (cc != 48)).1) := P'
              clear P' hb' hHeld
              try go_wp2_with fail
              refine hK.out _ _ (⟨PB.out.sent, PB.out.got, PB.out.state⟩) (fun hHeld => ?_)
              clear hK K
              refine takeL (i := 28) (d := 119) (v := ?_) rfl (by kernel_rfl) (by kernel_rfl) (by kernel_rfl) (fun _ _ _ h => h) (by rfl) ?_ (by assumption) ?_
              rotate_left
              · intro w hSw; (try dsimp only at hSw); go_simp; (try with_reducible rfl)
              simp only [Act.put, List.setIfInBounds_toArray, List.set_cons_zero, List.set_cons_succ]
              refine takeL (i := 29) (d := 120) (v := ?_) rfl (by kernel_rfl) (by kernel_rfl) (by kernel_rfl) (fun _ _ _ h => h) (by rfl) ?_ (by assumption) ?_
              rotate_left
              · intro w hSw; (try dsimp only at hSw); go_simp; (try with_reducible rfl)
              simp only [Act.put, List.setIfInBounds_toArray, List.set_cons_zero, List.set_cons_succ]
              refine takeL (i := 30) (d := 121) (v := ?_) rfl (by kernel_rfl) (by kernel_rfl) (by kernel_rfl) (fun _ _ _ h => h) (by rfl) ?_ (by assumption) ?_
              rotate_left
              · intro w hSw; (try dsimp only at hSw); go_simp; (try with_reducible rfl)
              simp only [Act.put, List.setIfInBounds_toArray, List.set_cons_zero, List.set_cons_succ]
              refine takeL (i := 31) (d := 122) (v := ?_) rfl (by kernel_rfl) (by kernel_rfl) (by kernel_rfl) (fun _ _ _ h => h) (by rfl) ?_ (by assumption) ?_
              rotate_left
              · intro w hSw; (try dsimp only at hSw); go_simp; (try with_reducible rfl)
              simp only [Act.put, List.setIfInBounds_toArray, List.set_cons_zero, List.set_cons_succ]
              refine takeL (i := 33) (d := 124) (v := ?_) rfl (by kernel_rfl) (by kernel_rfl) (by kernel_rfl) (fun _ _ _ h => h) (by rfl) ?_ (by assumption) ?_
              rotate_left
              · intro w hSw; (try dsimp only at hSw); go_simp; (try with_reducible rfl)
              simp only [Act.put, List.setIfInBounds_toArray, List.set_cons_zero, List.set_cons_succ]
              refine takeL (i := 34) (d := 125) (v := ?_) rfl (by kernel_rfl) (by kernel_rfl) (by kernel_rfl) (fun _ _ _ h => h) (by rfl) ?_ (by assumption) ?_
              rotate_left
              · intro w hSw; (try dsimp only at hSw); go_simp; (try with_reducible rfl)
              simp only [Act.put, List.setIfInBounds_toArray, List.set_cons_zero, List.set_cons_succ]
              refine takeL (i := 35) (d := 126) (v := ?_) rfl (by kernel_rfl) (by kernel_rfl) (by kernel_rfl) (fun _ _ _ h => h) (by rfl) ?_ (by assumption) ?_
              rotate_left
              · intro w hSw; (try dsimp only at hSw); go_simp; (try with_reducible rfl)
              simp only [Act.put, List.setIfInBounds_toArray, List.set_cons_zero, List.set_cons_succ]
              refine takeL (i := 36) (d := 127) (v := ?_) rfl (by kernel_rfl) (by kernel_rfl) (by kernel_rfl) (fun _ _ _ h => h) (by rfl) ?_ (by assumption) ?_
              rotate_left
              · intro w hSw; (try dsimp only at hSw); go_simp; (try with_reducible rfl)
              simp only [Act.put, List.setIfInBounds_toArray, List.set_cons_zero, List.set_cons_succ]
              refine takeL (i := 37) (d := 128) (v := ?_) rfl (by kernel_rfl) (by kernel_rfl) (by kernel_rfl) (fun _ _ _ h => h) (by rfl) ?_ (by assumption) ?_
              rotate_left
              · intro w hSw; (try dsimp only at hSw); go_simp; (try with_reducible rfl)
              simp only [Act.put, List.setIfInBounds_toArray, List.set_cons_zero, List.set_cons_succ]
              refine consL (i := 32) (d := 123) rfl (by kernel_rfl) (fun K hK => ?_)
              go_simp
              refine (pr_idle1 S PB.out hA.out.size (HT.out.below hA.out)).mono ?_
              rintro e w' ⟨rfl, P', hb'⟩
              replace hA : Hid (Below W.heap.size W w') := (by first | exact hA.out.trans hb' | exact hA.out.drew.trans hb')
              replace PB : Hid (Pr At W.heap.size w' p (Mm.sample m (cc != 48)).1 q (Mm.sample m (cc != 48)).1) := P'
              clear P' hb' hHeld
              try go_wp2_with fail
              refine hK.out _ _ (⟨PB.out.sent, PB.out.got, PB.out.state⟩) (fun hHeld => ?_)
              clear hK K
              refine takeL (i := 38) (d := 129) (v := ?_) rfl (by kernel_rfl) (by kernel_rfl) (by kernel_rfl) (fun _ _ _ h => h) (by rfl) ?_ (by assumption) ?_
              rotate_left
              · intro w hSw; (try dsimp only at hSw); go_simp; (try with_reducible rfl)
              simp only [Act.put, List.setIfInBounds_toArray, List.set_cons_zero, List.set_cons_succ]
              refine takeL (i := 39) (d := 130) (v := ?_) rfl (by kernel_rfl) (by kernel_rfl) (by kernel_rfl) (fun _ _ _ h => h) (by rfl) ?_ (by assumption) ?_
              rotate_left
              · intro w hSw; (try dsimp only at hSw); go_simp; (try with_reducible rfl)
              simp only [Act.put, List.setIfInBounds_toArray, List.set_cons_zero, List.set_cons_succ]
              refine wpAnyH_done (by kernel_rfl) ?_ _
              go_wp2
              exact ⟨⟨j + 1, (Mm.sample m (cc != 48)).1, by omega, by simp, PB, hA⟩, by simp [intOf]; omega⟩
          · obtain rfl : j = T.size := by omega
            go_wp2
            exact ⟨⟨k + 1, m, by omega, by simp, PB, hA⟩, by simp [intOf]; omega⟩
    · obtain rfl : k = len := by omega
      clear h1
      obtain ⟨dd, hd⟩ := drive_byte m
      generalize (dd.toNat : Int) = d at hd
      have HD : Hid (_) := hd
      clear hd
      go_wp2_with fail
      refine (tri_copy S PB.out hA.out.size (HT.out.below hA.out)).mono ?_
      rintro e w3 ⟨n, rfl, T3, hb3⟩
      replace hA : Hid (Below W.heap.size W w3) := hA.out.trans hb3
      have TR : Hid (Tri At W.heap.size w3 p m q m n m) := T3
      clear T3 hb3 PB
      go_wp2_with fail
      refine (tri_ask S Cm.noF (by decide) (by decide) TR.out hA.out.size (HT.out.below hA.out)).mono ?_
      rintro e w4 ⟨rfl, T4, hb4⟩
      replace hA : Hid (Below W.heap.size W w4) := hA.out.trans hb4
      replace TR : Hid (Tri At W.heap.size w4 p m q m n _) := T4
      clear T4 hb4
      go_wp2_with fail
      refine (tri_sample S 48 TR.out hA.out.size (HT.out.below hA.out)).mono ?_
      rintro e w5 ⟨sl, cp, rfl, T5, hb5⟩
      replace hA : Hid (Below W.heap.size W w5) := hA.out.trans hb5
      have PB : Hid (Pr At W.heap.size w5 p m q m) := T5.pair
      clear T5 hb5 TR
      go_wp2_with fail
      refine (pr_busy1 S PB.out hA.out.size (HT.out.below hA.out)).mono ?_
      rintro e w6 ⟨rfl, P', hb'⟩
      replace hA : Hid (Below W.heap.size W w6) := hA.out.trans hb'
      replace PB : Hid (Pr At W.heap.size w6 p m q m) := P'
      clear P' hb'
      go_wp2_with fail
      refine (pr_busy2 S PB.out hA.out.size).mono ?_
      rintro e w7 ⟨rfl, P', hb'⟩
      replace hA : Hid (Below W.heap.size W w7) := hA.out.trans hb'
      replace PB : Hid (Pr At W.heap.size w7 p m q m) := P'
      clear P' hb'
      go_wp2_with fail
      refine (pr_drive1 S HD.out PB.out hA.out.size (HT.out.below hA.out)).mono ?_
      rintro e w8 ⟨rfl, P', hb'⟩
      replace hA : Hid (Below W.heap.size W w8) := hA.out.trans hb'
      replace PB : Hid (Pr At W.heap.size w8 p m q m) := P'
      clear P' hb'
      go_wp2_with fail
      refine (pr_drive2 S HD.out PB.out hA.out.size).mono ?_
      rintro e w9 ⟨rfl, P', hb'⟩
      replace hA : Hid (Below W.heap.size W w9) := hA.out.trans hb'
      clear P' hb' PB
      go_wp2
      go_ret
      exact ⟨by simp, hA.out⟩
set_option maxRecDepth 100000 in
set_option maxHeartbeats 1000000 in
theorem long (S : MacSpec At) (HK : AckSpec) (s : Option Addr) (len cap : Nat) (hl : 16 < len) (W : World) (hT : Tab W) :
    Calls Tryz.prog 3 #[.slice s len cap] W fun e w' => e = .returned (.bool true) ∧ Below W.heap.size W w' := by
  have hk := known7_any S HK W hT
  clear hT HK
  go_enter Tryz.func3, Tryz.ntmps3
  go_wp2_with fail
  refine hk.mono ?_
  rintro e w0 ⟨rfl, hb0⟩
  have hA : Hid (Below W.heap.size W w0) := hb0
  clear hk hb0
  go_wp2
  go_ret
  exact ⟨rfl, hA.out⟩
theorem stepFlat : Fo.flat Tryz.prog 4 32 = some [(0, .int .i64), (1, .bool), (2, .int .u32), (3, .bool), (4, .str), (5, .str)] := by kernel_rfl
theorem steps_of_trod {H : Type} {enc : TypeId × Value → H} {w : World} {s : Option Addr} {len cap : Nat} {d : DataW H} {p : List MemPlace} (h : DataW.Trod enc Tryz.prog w 0 (fun _ => true) true 22 (.slice s len cap) d p) : ∃ wh fr lv, StepRow w s len wh fr lv := by
  obtain ⟨_, h0 | ⟨b, off, rfl, hc⟩⟩ := Fo.flat_rows 4 (.int .i64) [(1, .bool), (2, .int .u32), (3, .bool), (4, .str), (5, .str)] 6 Tryz.underlying22 stepFlat (by kernel_rfl) h
  · exact ⟨fun _ => 0, fun _ => Cm.noF, fun _ => ByteArray.empty, Or.inl h0⟩
  · have key : ∀ i, ∃ t : Int × Cm.Fr × ByteArray, i < len → w.cell? ⟨b, off + i * 6, none⟩ = some (.int .i64 t.1) ∧ w.cell? ⟨b, off + i * 6 + 1, none⟩ = some (.bool t.2.1.1) ∧ w.cell? ⟨b, off + i * 6 + 2, none⟩ = some (.int .u32 (t.2.1.2.1 : Int)) ∧ w.cell? ⟨b, off + i * 6 + 3, none⟩ = some (.bool t.2.1.2.2.1) ∧ w.cell? ⟨b, off + i * 6 + 4, none⟩ = some (.string ⟨t.2.1.2.2.2.toArray⟩) ∧ w.cell? ⟨b, off + i * 6 + 5, none⟩ = some (.string t.2.2) ∧ t.2.1.2.1 < 4294967296 := fun i => by
      by_cases hi : i < len
      · have hq := hc i hi
        obtain ⟨v0, c0, n0, rfl, _⟩ := hq (0, .int .i64) (by simp)
        obtain ⟨v1, c1, n1, rfl⟩ := hq (1, .bool) (by simp)
        obtain ⟨v2, c2, n2, rfl, hw2⟩ := hq (2, .int .u32) (by simp)
        obtain ⟨v3, c3, n3, rfl⟩ := hq (3, .bool) (by simp)
        obtain ⟨v4, c4, n4, rfl, _⟩ := hq (4, .str) (by simp)
        obtain ⟨v5, c5, n5, rfl, _⟩ := hq (5, .str) (by simp)
        obtain ⟨N2, rfl, hN2⟩ := u32_nat hw2
        refine ⟨(n0, (n1, N2, n3, n4.data.toList), n5), fun _ => ?_⟩
        simp only [← Nat.add_assoc] at c0 c1 c2 c3 c4 c5
        exact ⟨c0, c1, c2, c3, c4, c5, hN2⟩
      · exact ⟨(0, Cm.noF, ByteArray.empty), fun k => absurd k hi⟩
    obtain ⟨F, hF⟩ := Classical.axiomOfChoice key
    exact ⟨fun i => (F i).1, fun i => (F i).2.1, fun i => (F i).2.2, Or.inr ⟨b, off, rfl, hF⟩⟩
theorem walkA (S : MacSpec At) (HK : AckSpec) (s0 : Option Addr) (len0 cap0 : Nat) {w : World} (w0 : ∃ wh fr lv, StepRow w s0 len0 wh fr lv) (w' : World) (hw : w' = w) (hT : Tab w') :
    Calls Tryz.prog 3 #[.slice s0 len0 cap0] w' fun e w'' => e = .returned (.bool true) ∧ Below w'.heap.size w' w'' := by
  subst hw
  obtain ⟨wh, fr, lv, h⟩ := w0
  by_cases h1 : 16 < len0
  · exact long S HK _ _ _ h1 _ hT
  · exact row S HK _ _ _ wh fr lv (by omega) _ hT h
end Go.Proofs.YthappkhiiopfgaaGreatDoor.macPlays
