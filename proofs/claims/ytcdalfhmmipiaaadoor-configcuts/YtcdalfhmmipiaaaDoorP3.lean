/- Layer 13: the document's reader of bytes. -/
import Derived.Test.YtcdalfhmmipiaaaDoorP1
namespace Go.Proofs.YtcdalfhmmipiaaaDoor
open Go.RowKit Go.WideShapes
set_option linter.unusedVariables false
def rC (r : Pq.R) : Array Value := #[.string ⟨r.s.toArray⟩, .bool r.bad]
/-- A call that turns a reader and tells a number. -/
def Reads (w : World) (q : Nat) (x : Int) (r : Pq.R) (e : Ending) (w' : World) : Prop := e = .returned (.int .i64 x) ∧ RowT 60 w' q (rC r) ∧ Kept (fun j => j = q) w w'
theorem tail_ext (x : UInt8) (t : List UInt8) : (⟨(x :: t).toArray⟩ : ByteArray).extract 1 (t.length + 1) = ⟨t.toArray⟩ := by
  apply ByteArray.ext
  apply Array.toList_inj.1
  rw [Lib.extract_data]
  simp
set_option maxRecDepth 100000 in
set_option maxHeartbeats 1000000 in
theorem rone_any (w : World) (q : Nat) (r : Pq.R) (h : RowT 60 w q (rC r)) (hl : r.s.length ≤ 1000) : Calls Tryd.prog 26 #[Ob.ptr q] w (Reads w q (Pq.one r).1 (Pq.one r).2) := by
  have HR : Hid (RowT 60 w q (rC r)) := h
  obtain ⟨s, b⟩ := r
  have c0 : w.cell? ⟨q, 0, none⟩ = some (.string ⟨s.toArray⟩) := h.c 0 _ rfl
  have c1 : w.cell? ⟨q, 1, none⟩ = some (.bool b) := h.c 1 _ rfl
  have f0 := h.f 0
  have f1 := h.f 1
  clear h
  cases s with
  | nil =>
    have HW : Hid (Pq.one ⟨[], b⟩ = (0, ⟨[], true⟩)) := rfl
    rw [HW.out]
    clear HW
    go_enter Tryd.func26, Tryd.ntmps26
    go_wp2
    go_ret
    exact ⟨rfl, HR.out.set 1 _, Kept.set _ _ _ rfl⟩
  | cons x t =>
    have HW : Hid (Pq.one ⟨x :: t, b⟩ = ((x.toNat : Int), ⟨t, b⟩)) := rfl
    rw [HW.out]
    clear HW
    have hlen : (⟨(x :: t).toArray⟩ : ByteArray).size = t.length + 1 := by show (x :: t).toArray.size = _; simp
    have hl' : t.length ≤ 999 := by simp at hl; omega
    have HX : Hid ((⟨(x :: t).toArray⟩ : ByteArray).extract 1 (t.length + 1) = ⟨t.toArray⟩) := tail_ext x t
    go_enter Tryd.func26, Tryd.ntmps26
    go_wp2
    go_ret
    refine ⟨?_, ?_, Kept.set _ _ _ rfl⟩
    · show Ending.returned (.int .i64 (wrap64 (x.toNat : Int))) = _
      rw [IntWalk.wrap64_in _ (by have := x.toNat_lt; omega)]
    rw [HX.out]
    exact HR.out.set 0 _
theorem one_len (r : Pq.R) : (Pq.one r).2.s.length ≤ r.s.length := by
  obtain ⟨s, b⟩ := r
  cases s with
  | nil => exact Nat.le_refl _
  | cons x t => exact Nat.le_succ _
theorem one_num (r : Pq.R) : 0 ≤ (Pq.one r).1 ∧ (Pq.one r).1 < 256 := by
  obtain ⟨s, b⟩ := r
  cases s with
  | nil => exact ⟨Int.le_refl _, by show (0 : Int) < 256; decide⟩
  | cons x t => exact ⟨by show 0 ≤ (x.toNat : Int); omega, by show (x.toNat : Int) < 256; have := x.toNat_lt; omega⟩
theorem two_len (r : Pq.R) : (Pq.twoR r).2.s.length ≤ r.s.length := Nat.le_trans (one_len _) (one_len _)
theorem two_num (r : Pq.R) : 0 ≤ (Pq.twoR r).1 ∧ (Pq.twoR r).1 < 65536 := by
  have h1 := one_num r
  have h2 := one_num (Pq.one r).2
  show 0 ≤ 256 * (Pq.one r).1 + (Pq.one (Pq.one r).2).1 ∧ 256 * (Pq.one r).1 + (Pq.one (Pq.one r).2).1 < 65536
  omega
set_option maxRecDepth 100000 in
set_option maxHeartbeats 1000000 in
theorem rtwoR_any (w : World) (q : Nat) (r : Pq.R) (h : RowT 60 w q (rC r)) (hl : r.s.length ≤ 1000) : Calls Tryd.prog 27 #[Ob.ptr q] w (Reads w q (Pq.twoR r).1 (Pq.twoR r).2) := by
  have h1 := rone_any w q r h hl
  have HL : Hid ((Pq.one r).2.s.length ≤ 1000) := Nat.le_trans (one_len r) hl
  have n1 := one_num r
  have n2 := one_num (Pq.one r).2
  have HE : Hid ((Pq.twoR r).1 = 256 * (Pq.one r).1 + (Pq.one (Pq.one r).2).1) := rfl
  have HE2 : Hid ((Pq.twoR r).2 = (Pq.one (Pq.one r).2).2) := rfl
  rw [HE.out, HE2.out]
  clear HE HE2 h hl
  generalize (Pq.one r).1 = a1 at *
  generalize (Pq.one r).2 = r1 at *
  have H2 : Hid (∀ w', RowT 60 w' q (rC r1) → Calls Tryd.prog 26 #[Ob.ptr q] w' (Reads w' q (Pq.one r1).1 (Pq.one r1).2)) := fun w' h' => rone_any w' q r1 h' HL.out
  generalize (Pq.one r1).1 = a2 at *
  generalize (Pq.one r1).2 = r2 at *
  obtain ⟨n1a, n1b⟩ := n1
  obtain ⟨n2a, n2b⟩ := n2
  go_enter Tryd.func27, Tryd.ntmps27
  go_wp2_with fail
  refine h1.mono ?_
  rintro e w1 ⟨rfl, hr1, hk1⟩
  have HR1 : Hid (RowT 60 w1 q (rC r1)) := hr1
  have HK1 : Hid (Kept (fun j => j = q) w w1) := hk1
  clear hr1 hk1 h1
  go_wp2_with fail
  refine (H2.out _ HR1.out).mono ?_
  rintro e w2 ⟨rfl, hr2, hk2⟩
  have HR2 : Hid (RowT 60 w2 q (rC r2)) := hr2
  have HK2 : Hid (Kept (fun j => j = q) w w2) := HK1.out.trans hk2 (fun g hg => Or.inl hg)
  clear hr2 hk2 HR1 HK1
  go_wp2
  go_ret
  exact ⟨rfl, HR2.out, HK2.out⟩
end Go.Proofs.YtcdalfhmmipiaaaDoor
