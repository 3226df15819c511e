/- Contracts of the word's small functions: the bits of a part, what is split off, what is joined; when two objects are the same. -/
import Derived.Test.YtbjlpmjalidfkaaCeA
import Derived.WalkSpells
import Derived.WalkLawsBesides
import Derived.Deep.QuietTactic
import Derived.Deep.DeepCutAuto
import Derived.BigQuiet
import Derived.Laws.StructEq
import Derived.Lib.QuietBelow
import Derived.KernelRfl
namespace Go.Proofs.Ytbjlpmjalidfkaa.Ce
open Go.RowKit

theorem ret_i64 {a b : Int} (h : a = b) : Ending.returned (.int .i64 a) = .returned (.int .i64 b) := by rw [h]
theorem below_drewN {B : Nat} {a w : World} (h : Below B a w) (n : Nat) : Below B a (w.drewN n) := h.trans ⟨rfl, rfl, rfl, Nat.le_refl _, fun _ _ => rfl⟩
theorem onB {w W W' : World} (h : Below w.heap.size w W) (hb : Below W.heap.size W W') : Below w.heap.size w W' := h.trans (hb.mono h.size)

set_option maxHeartbeats 400000 in
set_option maxRecDepth 100000 in
theorem bits_kind (n : Int) (w : World) (hn : InR n) :
    Calls Try.prog 101 #[.int .i64 n, .int .i64 0, .int .i64 4] w fun e w' => e = .returned (.int .i64 (kb n)) ∧ Below w.heap.size w w' := by
  obtain ⟨h1, h2⟩ := hn
  go_enter Try.func101, Try.ntmps101
  go_wp2_with fail
  go_quiet (fail)
  go_wp2
  go_ret
  exact ⟨ret_i64 (and15 _), below_drewN (Below.refl _ _) _⟩

set_option maxHeartbeats 400000 in
set_option maxRecDepth 100000 in
theorem bits_mark (n : Int) (w : World) (hn : InR n) :
    Calls Try.prog 101 #[.int .i64 n, .int .i64 4, .int .i64 5] w fun e w' => e = .returned (.int .i64 (mb n)) ∧ Below w.heap.size w w' := by
  obtain ⟨h1, h2⟩ := hn
  go_enter Try.func101, Try.ntmps101
  go_wp2_with fail
  go_quiet (fail)
  go_wp2
  go_ret
  exact ⟨ret_i64 (and1 _), below_drewN (Below.refl _ _) _⟩

set_option maxHeartbeats 400000 in
set_option maxRecDepth 100000 in
theorem bits_size (n : Int) (w : World) (hn : InR n) :
    Calls Try.prog 101 #[.int .i64 n, .int .i64 5, .int .i64 10] w fun e w' => e = .returned (.int .i64 (sb n)) ∧ Below w.heap.size w w' := by
  obtain ⟨h1, h2⟩ := hn
  go_enter Try.func101, Try.ntmps101
  go_wp2_with fail
  go_quiet (fail)
  go_wp2
  go_ret
  exact ⟨ret_i64 (and31 _), below_drewN (Below.refl _ _) _⟩

set_option maxHeartbeats 400000 in
set_option maxRecDepth 100000 in
theorem bits_aux (n : Int) (w : World) (hn : InR n) :
    Calls Try.prog 101 #[.int .i64 n, .int .i64 10, .int .i64 34] w fun e w' => e = .returned (.int .i64 (ab n)) ∧ Below w.heap.size w w' := by
  obtain ⟨h1, h2⟩ := hn
  go_enter Try.func101, Try.ntmps101
  go_wp2_with fail
  go_quiet (fail)
  go_wp2
  go_ret
  exact ⟨ret_i64 (and24 _), below_drewN (Below.refl _ _) _⟩

/-- An object as it lies in a block of its own. -/
structure Box (w : World) (b : Nat) (k s a m : Value) : Prop where
  kind : w.cell? ⟨b, 0, none⟩ = some k
  size : w.cell? ⟨b, 1, none⟩ = some s
  aux : w.cell? ⟨b, 2, none⟩ = some a
  mark : w.cell? ⟨b, 3, none⟩ = some m
  f0 : w.frozen? ⟨b, 0, none⟩ = false
  f1 : w.frozen? ⟨b, 1, none⟩ = false
  f2 : w.frozen? ⟨b, 2, none⟩ = false
  f3 : w.frozen? ⟨b, 3, none⟩ = false
  lt : b < w.heap.size
theorem Box.later {w w' : World} {b : Nat} {k s a m : Value} (h : Box w b k s a m) (hb : Below w.heap.size w w') : Box w' b k s a m := by
  obtain ⟨h0, h1, h2, h3, g0, g1, g2, g3, hl⟩ := h
  have hs := hb.size
  exact ⟨(hb.cell hl).trans h0, (hb.cell hl).trans h1, (hb.cell hl).trans h2, (hb.cell hl).trans h3, (hb.frozen hl).trans g0, (hb.frozen hl).trans g1, (hb.frozen hl).trans g2, (hb.frozen hl).trans g3, by omega⟩
theorem box_new (w : World) (k s a m : Value) (t : TypeId) : Box (w.alloc (.cells #[k, s, a, m] t)) w.heap.size k s a m := by
  refine ⟨?_, ?_, ?_, ?_, ?_, ?_, ?_, ?_, ?_⟩ <;> simp [go_sem]
theorem Box.alloc {w : World} {b : Nat} {k s a m : Value} (h : Box w b k s a m) (o : Obj) : Box (w.alloc o) b k s a m :=
  h.later ((Below.refl _ _).alloc (Nat.le_refl _) o)

set_option maxHeartbeats 400000 in
set_option maxRecDepth 100000 in
theorem split_any (n : Int) (w : World) (hn : InR n) :
    Calls Try.prog 83 #[.int .i64 n] w fun e w' => e = .returned (.agg #[.int .i64 (kb n), .int .i64 (sb n), .int .i64 (ab n), .int .i64 (mb n)]) ∧ Below w.heap.size w w' := by
  have HN := Lib.hid hn
  clear hn
  have hB := (Below.refl w.heap.size w).alloc (Nat.le_refl _) (.cells #[.int .i64 0, .int .i64 0, .int .i64 0, .int .i64 0] 69)
  have hX := box_new w (.int .i64 0) (.int .i64 0) (.int .i64 0) (.int .i64 0) 69
  go_enter Try.func83, Try.ntmps83
  go_wp2_with fail
  generalize w.alloc (.cells #[.int .i64 0, .int .i64 0, .int .i64 0, .int .i64 0] 69) = W0 at hB hX ⊢
  refine (bits_kind n _ HN.out).mono ?_
  rintro e x1 ⟨rfl, hb⟩
  replace hB := onB hB hb
  replace hX := hX.later hb
  clear hb
  go_wp2_with fail
  refine (bits_mark n _ HN.out).mono ?_
  rintro e x2 ⟨rfl, hb⟩
  replace hB := onB hB hb
  replace hX := hX.later hb
  clear hb
  go_wp2_with fail
  refine (bits_size n _ HN.out).mono ?_
  rintro e x3 ⟨rfl, hb⟩
  replace hB := onB hB hb
  replace hX := hX.later hb
  clear hb
  go_wp2_with fail
  refine (bits_aux n _ HN.out).mono ?_
  rintro e x4 ⟨rfl, hb⟩
  replace hB := onB hB hb
  replace hX := hX.later hb
  clear hb
  obtain ⟨c0, c1, c2, c3, f0, f1, f2, f3, hl⟩ := hX
  go_wp2
  exact bodyPost_ret (v := .agg #[.int .i64 (kb n), .int .i64 (sb n), .int .i64 (ab n), .int .i64 (mb n)]) (by simp [results, Try.results83, go_sem, c0, c1, c2, c3]) rfl ⟨rfl, ((((hB.setCell (Nat.le_refl _) _).setCell (Nat.le_refl _) _).setCell (Nat.le_refl _) _).setCell (Nat.le_refl _) _)⟩
end Go.Proofs.Ytbjlpmjalidfkaa.Ce
