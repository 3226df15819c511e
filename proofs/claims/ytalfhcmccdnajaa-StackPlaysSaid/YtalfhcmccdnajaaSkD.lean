/- Push. -/
import Derived.Test.YtalfhcmccdnajaaSkC
import Derived.BigQuiet
import Derived.Deep.QuietTactic
namespace Go.Proofs.Ytalfhcmccdnajaa
open Go.RowKit Go.Sort

theorem box_cells {w : World} {u0 u1 u2 : Value} {T : TypeId} : (w.alloc (.cells #[u0, u1, u2] T)).heap[w.heap.size]? = some (.cells #[u0, u1, u2] T (0, 0)) := heap_alloc_new _ _

theorem takes_regrown (k n : Int) (a : Option Addr) (m c : Nat) (w : World) (d : Nat) (os : Array Obj) (hm : m ≤ 9223372036854775805) :
    Calls Try.prog 28 #[.agg #[.int .i64 k, .int .i64 n, .slice a m c]] (grow (redrawn w d) os) fun e w' => e = .returned (.int .i64 ((m : Int) + 2)) ∧ ∃ p : Regrown, w' = grow (redrawn w p.d) p.os :=
  (takes_any k n a m c _ hm).regrown_of

set_option maxHeartbeats 4000000 in
theorem push_out (p left : Nat) (room : Int) (v : Value) (L : List Fr) (k n : Int) (a : Option Addr) (m c : Nat) (w : World) (h : St w p room v L left) (hm : m ≤ 9223372036854775805) (hr : room - used L < (m : Int) + 2) :
    Calls Try.prog 20 #[.pointer (some ⟨p, 0, none⟩), .agg #[.int .i64 k, .int .i64 n, .slice a m c]] w fun e w' => e = .returned (.int .i64 13) ∧ Did p room v w L left w' := by
  have hb := (Below.refl w.heap.size w).alloc (Nat.le_refl _) (.cells #[.int .i64 k, .int .i64 n, .slice a m c] TF)
  have hx := box_cells (w := w) (u0 := .int .i64 k) (u1 := .int .i64 n) (u2 := .slice a m c) (T := TF)
  have h' := h.later hb
  have hs := Lib.hid (show 0 ≤ room ∧ room ≤ 4096 ∧ 0 ≤ used L ∧ used L ≤ 4096 by have := h.r0; have := h.r1; have := h.us; have := used_len L; omega)
  have hR := Lib.hid hr
  have q0 := cell_of_row _ _ 0 _ _ _ hx
  have q1 := cell_of_row _ _ 1 _ _ _ hx
  have q2 := cell_of_row _ _ 2 _ _ _ hx
  have hB := Lib.hid (And.intro h hb)
  have g0 := h'.c0
  have g1 := h'.c1
  clear h h' hx hr
  go_enter Try.func20, Try.ntmps20
  go_wp2_with fail
  clear hb
  generalize hW : w.alloc (.cells #[.int .i64 k, .int .i64 n, .slice a m c] TF) = W at q0 q1 q2 g0 g1 ⊢
  generalize w.heap.size = b at q0 q1 q2 ⊢
  generalize hU : used L = U at g1 ⊢
  rw [hU] at hs hR
  have HW := Lib.hid hW
  clear hW hU
  have k0 := cell_regrown q0
  have k1 := cell_regrown q1
  have k2 := cell_regrown q2
  have k3 := cell_regrown g0
  have k4 := cell_regrown g1
  refine wp_region_quiet_below (by kernel_rfl) (by kernel_rfl) ?_
  repeat (quiet_step (exact takes_regrown _ _ _ _ _ _ _ _ hm))
  refine wpQuiet_nil ?_
  intro _ hw'
  obtain ⟨⟨dq, osq⟩, hw''⟩ := hw'
  subst hw''
  have hE := Lib.hid (show Below w.heap.size w (grow (redrawn W dq) osq) by have hW := HW.out; subst hW; exact hB.out.2.trans ((below_regrown _ dq osq).mono hB.out.2.size))
  have e0 : IntKind.i64.wrap (room - U) = room - U := by rw [IntKind.wrap_i64]; have := hs.out; omega
  have e1 : room - U < (m : Int) + 2 := hR.out
  clear k0 k1 k2 k3 k4 q0 q1 q2 g0 g1
  go_wp2_with fail
  go_ret
  exact ⟨rfl, Did.of hB.out.1 hE.out⟩

end Go.Proofs.Ytalfhcmccdnajaa
