/- A new ring. -/
import Derived.Test.YtbjlpmjalidfkaaRiF
import Derived.Laws.EntriesVeiled
namespace Go.Proofs.Ytbjlpmjalidfkaa
open Go.RowKit

theorem mkfunc2 (fn : Fn) (first cap : Array Value) (w : World) : (Instr.makeFunc fn first cap).run Try.prog w = .ok (.func fn first cap) w := rfl

def Linked (p k : Nat) (w : World) (e : Ending) (w' : World) : Prop :=
  ∃ a n : Nat, e = .returned (.agg #[.func (.func 99) #[] #[.pointer (some ⟨a, 0, none⟩), .pointer (some ⟨n, 0, none⟩)], .func (.func 100) #[] #[.pointer (some ⟨a, 0, none⟩), .pointer (some ⟨n, 0, none⟩)]]) ∧
    w'.cell? ⟨a, 0, none⟩ = some (.pointer (some ⟨p, 0, none⟩)) ∧ w'.cell? ⟨n, 0, none⟩ = some (.int .i64 k) ∧ w.heap.size ≤ a ∧ w.heap.size ≤ n ∧ Below w.heap.size w w'

set_option maxHeartbeats 1000000 in
theorem linkAt_any (p k : Nat) (w : World) :
    Calls Try.prog 77 #[.pointer (some ⟨p, 0, none⟩), .int .i64 k] w (Linked p k w) := by
  have hmf := mkfunc2
  go_enter Try.func77, Try.ntmps77
  go_wp2_with fail
  refine bodyPost_ret (v := .agg #[.func (.func 99) #[] #[.pointer (some ⟨w.heap.size, 0, none⟩), .pointer (some ⟨w.heap.size + 1, 0, none⟩)], .func (.func 100) #[] #[.pointer (some ⟨w.heap.size, 0, none⟩), .pointer (some ⟨w.heap.size + 1, 0, none⟩)]]) (by simp [results, Try.results77, go_sem]) rfl ?_
  exact ⟨w.heap.size, w.heap.size + 1, rfl, by simp [go_sem], by simp [go_sem], Nat.le_refl _, by omega, (((Below.refl _ _).alloc (Nat.le_refl _) _).alloc (by simp) _).alloc (by simp; omega) _⟩

theorem later' {W W' : World} {a : Addr} {v : Value} (hb : Below W.heap.size W W') (h : W.cell? a = some v) : W'.cell? a = some v :=
  (hb.cell (World.block_lt_of_cell? _ _ h)).trans h

theorem onB' {w W W' : World} (h : Below w.heap.size w W) (hb : Below W.heap.size W W') : Below w.heap.size w W' := h.trans (hb.mono h.size)

def none4 : Rows := ⟨[], [], [], []⟩

def Newly (p d n : Nat) (w : World) (e : Ending) (w' : World) : Prop :=
  ∃ s : Spot, e = .returned (.pointer (some ⟨s.r, 0, none⟩)) ∧ s.p = p ∧ s.d = d ∧ s.n = n ∧ Ring s none4 w' ∧ Below w.heap.size w w' ∧ w.heap.size ≤ s.r

set_option maxHeartbeats 4000000 in
theorem ring_new (p d n : Nat) (D : Nat → Int) (u : Int) (w : World) (hA : At w p d n D u) (hn : n ≤ 65536) :
    Calls Try.prog 40 #[.pointer (some ⟨p, 0, none⟩)] w (Newly p d n w) := by
  have HA := Lib.hid hA
  clear hA
  go_enter Try.func40, Try.ntmps40
  go_wp2_with fail
  refine (linkAt_any p 1 w).mono ?_
  rintro e w2 ⟨a1, n1, rfl, x1, x2, x3, x4, hb2⟩
  have H2 := Lib.hid (And.intro x1 (And.intro x2 (And.intro x3 (And.intro x4 hb2))))
  clear x1 x2 x3 x4 hb2
  go_wp2_with fail
  refine (linkAt_any p 2 w2).mono ?_
  rintro e w3 ⟨a2, n2, rfl, x1, x2, x3, x4, hb3⟩
  have H3 := Lib.hid (And.intro x1 (And.intro x2 (And.intro x3 (And.intro x4 hb3))))
  clear x1 x2 x3 x4 hb3
  go_wp2_with fail
  obtain ⟨x1, x2, x3, x4, hb2⟩ := H2.out
  obtain ⟨y1, y2, y3, y4, hb3⟩ := H3.out
  have lp := HA.out.lp
  have ld := HA.out.ld
  have hs2 := hb2.size
  have hs3 := hb3.size
  have hb := onB' hb2 hb3
  refine bodyPost_ret (v := .pointer (some ⟨w3.heap.size, 0, none⟩)) (by simp [results, Try.results40, go_sem]) rfl ?_
  refine ⟨⟨w3.heap.size, p, d, n, a1, n1, a2, n2⟩, rfl, rfl, rfl, rfl, ⟨fun _ => 0, fun _ => 0, D, ?_, ?_⟩, hb.alloc (by omega) _, by simp; omega⟩
  · have hx := (Below.refl w3.heap.size w3).alloc (Nat.le_refl _) (.cells #[.pointer (some ⟨p, 0, none⟩), .func (.func 99) #[] #[.pointer (some ⟨a1, 0, none⟩), .pointer (some ⟨n1, 0, none⟩)], .func (.func 100) #[] #[.pointer (some ⟨a1, 0, none⟩), .pointer (some ⟨n1, 0, none⟩)], .func (.func 99) #[] #[.pointer (some ⟨a2, 0, none⟩), .pointer (some ⟨n2, 0, none⟩)], .func (.func 100) #[] #[.pointer (some ⟨a2, 0, none⟩), .pointer (some ⟨n2, 0, none⟩)], .int .i64 0, .int .i64 0, .int .i64 0, .int .i64 0, .int .i64 0, .int .i64 0, .int .i64 0, .int .i64 0] 130)
    have l1 := World.block_lt_of_cell? _ _ (later' hb3 x1)
    have l2 := World.block_lt_of_cell? _ _ (later' hb3 x2)
    have l3 := World.block_lt_of_cell? _ _ y1
    have l4 := World.block_lt_of_cell? _ _ y2
    simp only at l1 l2 l3 l4
    refine ⟨by simp [go_sem], by simp [go_sem], by simp [go_sem], by simp [go_sem], by simp [go_sem], ?_, ?_, fun j => by simp [go_sem], later' hx (later' hb3 x1), later' hx (later' hb3 x2), later' hx y1, later' hx y2, ⟨u, (HA.out.later hb).later hx⟩, hn, by simp; omega, by simp; omega, ?_, ?_, ?_, ?_⟩
    · intro k hk
      obtain rfl | rfl | rfl | rfl : k = 0 ∨ k = 1 ∨ k = 2 ∨ k = 3 := by omega
      all_goals simp [go_sem]
    · intro k hk
      obtain rfl | rfl | rfl | rfl : k = 0 ∨ k = 1 ∨ k = 2 ∨ k = 3 := by omega
      all_goals simp [go_sem]
    all_goals exact ⟨by simp only; omega, by simp only; omega, by simp only; omega⟩
  · exact ⟨rfl, rfl, rfl, rfl, (by simp [none4]), (by simp [none4]), (by simp [none4]), (by simp [none4]), trivial, ⟨by simp [none4, Rows.all], by simp [none4, Rows.all]⟩, by simp [none4, Rows.all]⟩

end Go.Proofs.Ytbjlpmjalidfkaa
