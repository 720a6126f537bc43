/- A matrix in a variable of one's own: a list of it appended to. -/
import Derived.Test.YtkgeknkppnadfaaMb
namespace Go.Proofs.Ytkgeknkppnadfaa
open Go.RowKit Go.WideShapes
set_option linter.unusedVariables false
namespace Mb
theorem elI : Sg.El Try.prog 26 3 1 (.int .i64 0) 8 := ⟨Try.underlying26, by kernel_rfl, rfl, by decide⟩
theorem elG : Sg.El Try.prog 22 62 3 (.agg #[.int .u32 0, .int .i64 0, .bool false]) 24 := ⟨Try.underlying22, by kernel_rfl, rfl, by decide⟩
theorem elW : Sg.El Try.prog 27 88 6 (.agg #[.int .i64 0, .int .i64 0, .int .i64 0, .int .i64 0, .int .i64 0, .int .i64 0]) 48 := ⟨Try.underlying27, by kernel_rfl, rfl, by decide⟩
section
variable {W w w' : World} {p : Nat} {m : Mx.M} {a : Ma} {s : Option Addr} {c n : Nat}
/-- Behind an append onto the first list (the second, the third) the row stands. -/
theorem row1 (h : Mb W w p m a) (hk : Kept (Sg.At_ a.s1 a.c1) w w') : RowT 29 w' p (mCs m a) := h.o1.row hk h.row (by decide)
theorem row2 (h : Mb W w p m a) (hk : Kept (Sg.At_ a.s2 a.c2) w w') : RowT 29 w' p (mCs m a) := h.o2.row hk h.row (by decide)
theorem row3 (h : Mb W w p m a) (hk : Kept (Sg.At_ a.s3 a.c3) w w') : RowT 29 w' p (mCs m a) := h.o3.row hk h.row (by decide)
theorem app1 {xs : List Int} (h : Mb W w p m a) (hk : Kept (Sg.At_ a.s1 a.c1) w w') (h1 : Sg.OL 3 1 W.heap.size w' s c n (xs.flatMap mC1)) (hn : n = xs.length) : Mb W (w'.setCell ⟨p, 8, none⟩ (.slice s n c)) p { m with masters := xs } { a with s1 := s, c1 := c } := by
  subst hn
  have r := row1 h hk
  have k2 : Kept (fun j => j = p) w' (w'.setCell ⟨p, 8, none⟩ (.slice s xs.length c)) := Kept.set _ _ _ rfl
  have q2 := h.o2.kept hk (ol_ne2 h.o2 h.o1 (by decide))
  have q3 := h.o3.kept hk (ol_ne2 h.o3 h.o1 (by decide))
  have e : (mCs m a).setIfInBounds 8 (.slice s xs.length c) = mCs { m with masters := xs } { a with s1 := s, c1 := c } := by unfold mCs; simp
  refine ⟨(h.bel.trans (h.o1.below hk h.bel.size)).setCell h.bp _, h.bp, by rw [← e]; exact r.set 8 _, h1.kept k2 (fun g hg e => by subst e; exact ol_ne h1 r (by decide) hg), q2.kept k2 (fun g hg e => by subst e; exact ol_ne q2 r (by decide) hg), q3.kept k2 (fun g hg e => by subst e; exact ol_ne q3 r (by decide) hg)⟩
theorem app2 {xs : List Mx.Msg} (h : Mb W w p m a) (hk : Kept (Sg.At_ a.s2 a.c2) w w') (h1 : Sg.OL 62 3 W.heap.size w' s c n (xs.flatMap mC2)) (hn : n = xs.length) : Mb W (w'.setCell ⟨p, 9, none⟩ (.slice s n c)) p { m with messages := xs } { a with s2 := s, c2 := c } := by
  subst hn
  have r := row2 h hk
  have k2 : Kept (fun j => j = p) w' (w'.setCell ⟨p, 9, none⟩ (.slice s xs.length c)) := Kept.set _ _ _ rfl
  have q1 := h.o1.kept hk (ol_ne2 h.o1 h.o2 (by decide))
  have q3 := h.o3.kept hk (ol_ne2 h.o3 h.o2 (by decide))
  have e : (mCs m a).setIfInBounds 9 (.slice s xs.length c) = mCs { m with messages := xs } { a with s2 := s, c2 := c } := by unfold mCs; simp
  refine ⟨(h.bel.trans (h.o2.below hk h.bel.size)).setCell h.bp _, h.bp, by rw [← e]; exact r.set 9 _, q1.kept k2 (fun g hg e => by subst e; exact ol_ne q1 r (by decide) hg), h1.kept k2 (fun g hg e => by subst e; exact ol_ne h1 r (by decide) hg), q3.kept k2 (fun g hg e => by subst e; exact ol_ne q3 r (by decide) hg)⟩
theorem app3 {xs : List Mx.Win} (h : Mb W w p m a) (hk : Kept (Sg.At_ a.s3 a.c3) w w') (h1 : Sg.OL 88 6 W.heap.size w' s c n (xs.flatMap mC3)) (hn : n = xs.length) : Mb W (w'.setCell ⟨p, 10, none⟩ (.slice s n c)) p { m with windows := xs } { a with s3 := s, c3 := c } := by
  subst hn
  have r := row3 h hk
  have k2 : Kept (fun j => j = p) w' (w'.setCell ⟨p, 10, none⟩ (.slice s xs.length c)) := Kept.set _ _ _ rfl
  have q1 := h.o1.kept hk (ol_ne2 h.o1 h.o3 (by decide))
  have q2 := h.o2.kept hk (ol_ne2 h.o2 h.o3 (by decide))
  have e : (mCs m a).setIfInBounds 10 (.slice s xs.length c) = mCs { m with windows := xs } { a with s3 := s, c3 := c } := by unfold mCs; simp
  refine ⟨(h.bel.trans (h.o3.below hk h.bel.size)).setCell h.bp _, h.bp, by rw [← e]; exact r.set 10 _, q1.kept k2 (fun g hg e => by subst e; exact ol_ne q1 r (by decide) hg), q2.kept k2 (fun g hg e => by subst e; exact ol_ne q2 r (by decide) hg), h1.kept k2 (fun g hg e => by subst e; exact ol_ne h1 r (by decide) hg)⟩
end
end Mb
end Go.Proofs.Ytkgeknkppnadfaa
