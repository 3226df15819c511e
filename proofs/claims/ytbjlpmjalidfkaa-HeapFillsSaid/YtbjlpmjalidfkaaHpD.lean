/- The class that a size goes into; how many words it takes. -/
import Derived.Test.YtbjlpmjalidfkaaHpC
namespace Go.Proofs.Ytbjlpmjalidfkaa
open Go.RowKit

/-- The first class that has room for a size; k: none has. -/
structure Cls (z : Nat → Int) (k : Nat) (size : Int) (i : Nat) : Prop where
  le : i ≤ k
  low : ∀ j, j < i → z j < size
  fits : i < k → size ≤ z i
theorem cls_ex (z : Nat → Int) (k : Nat) (size : Int) : ∃ i, Cls z k size i := by
  induction k with
  | zero => exact ⟨0, Nat.le_refl _, fun j hj => absurd hj (Nat.not_lt_zero _), fun h => absurd h (Nat.not_lt_zero _)⟩
  | succ k ih =>
    obtain ⟨i, h1, h2, h3⟩ := ih
    by_cases e : i = k
    · subst e
      by_cases g : size ≤ z i
      · exact ⟨i, by omega, h2, fun _ => g⟩
      · refine ⟨i + 1, Nat.le_refl _, fun j hj => ?_, fun h => absurd h (Nat.lt_irrefl _)⟩
        by_cases e : j = i
        · subst e; omega
        · exact h2 j (by omega)
    · exact ⟨i, by omega, h2, fun _ => h3 (by omega)⟩

/-- What classFor tells. -/
def ClassSaid (x : HSpot) (i : Nat) (w : World) (e : Ending) (w' : World) : Prop :=
  e = .returned (if i < x.k then .tuple #[.agg #[.int .i64 (x.sz i), .pointer (some ⟨(x.S i).r, 0, none⟩)], .bool true] else .tuple #[.agg #[.int .i64 0, .pointer none], .bool false]) ∧ Below w.heap.size w w'

set_option maxHeartbeats 4000000 in
set_option maxRecDepth 100000 in
theorem class_for (x : HSpot) (T : Nat → Nat) (D : Nat → Int) (R : Nat → Rows) (top par : Int) (L : List (Int × Int)) (w : World) (h : HLies x T D R top par L w) (size : Int) (i : Nat) (hC : Cls x.sz x.k size i) :
    Calls Try.prog 54 #[.pointer (some ⟨x.h, 0, none⟩), .int .i64 size] w (ClassSaid x i w) := by
  obtain ⟨cb, cap, g, hT, hc, hcs, -⟩ := h.rest
  have hB := (Below.refl w.heap.size w).alloc (Nat.le_refl _) (.cells #[.int .i64 0, .pointer none] 101)
  have c1 := later' hB hc
  have HCS := Lib.hid (show ∀ j, j < x.k → cb < w.heap.size ∧ w.cell? ⟨cb, j * 2, none⟩ = some (.int .i64 (x.sz j)) ∧ w.cell? ⟨cb, j * 2 + 1, none⟩ = some (.pointer (some ⟨(x.S j).r, 0, none⟩)) from fun j hj => ⟨World.block_lt_of_cell? _ _ (hcs j hj).1, hcs j hj⟩)
  have HC := Lib.hid hC
  have HB := Lib.hid hB
  have b0 : (w.alloc (.cells #[.int .i64 0, .pointer none] 101)).cell? ⟨w.heap.size, 0, none⟩ = some (.int .i64 0) := by simp [go_sem]
  have b1 : (w.alloc (.cells #[.int .i64 0, .pointer none] 101)).cell? ⟨w.heap.size, 1, none⟩ = some (.pointer none) := by simp [go_sem]
  have z : ∀ j, (w.alloc (.cells #[.int .i64 0, .pointer none] 101)).frozen? ⟨w.heap.size, j, none⟩ = false := fun j => by simp [go_sem]
  have hz : (w.alloc (.cells #[.int .i64 0, .pointer none] 101)).heap.size = w.heap.size + 1 := by simp
  have le := hC.le
  have k6 := h.k6
  clear h hcs hc hC hB hT g
  go_enter Try.func54, Try.ntmps54
  go_upto_region 1 with fail
  generalize (w.alloc (.cells #[.int .i64 0, .pointer none] 101)) = W at *
  go_wp2_with fail
  go_loopw [13] (fun s13 wr => ∃ j : Nat, j ≤ i ∧ s13 = .int .i64 j ∧ Below W.heap.size W wr) (fun s13 _ => x.k - (intOf s13).toNat)
  case atStart => exact ⟨0, Nat.zero_le _, rfl, Below.refl _ _⟩
  case round =>
    obtain ⟨j, hj, rfl, hb⟩ := hrel
    replace b0 := later' hb b0
    replace b1 := later' hb b1
    have z' : ∀ m, wr.frozen? ⟨w.heap.size, m, none⟩ = false := fun m => (World.frozen?_of_block (w := W) (hb.block w.heap.size (by omega))).trans (z m)
    have hs := hb.size
    have HBR := Lib.hid (And.intro hb (onB' HB.out hb))
    clear hb z
    by_cases hlt : j < x.k
    · have hlt' : (j : Int) < (x.k : Int) := by omega
      obtain ⟨hl, d0, d1⟩ := HCS.out j hlt
      replace d0 := (HBR.out.2.cell (p := ⟨cb, j * 2, none⟩) hl).trans d0
      replace d1 := (HBR.out.2.cell (p := ⟨cb, j * 2 + 1, none⟩) hl).trans d1
      by_cases e : j = i
      · subst e
        have g1 := HC.out.fits hlt
        have e1 : decide (size ≤ x.sz j) = true := decide_eq_true g1
        have hx := (Below.refl wr.heap.size wr).alloc (Nat.le_refl _) (.cells #[.int .i64 (x.sz j), .pointer (some ⟨(x.S j).r, 0, none⟩)] 101)
        have x0 := later' hx b0
        have x1 := later' hx b1
        have xz : ∀ m, (wr.alloc (.cells #[.int .i64 (x.sz j), .pointer (some ⟨(x.S j).r, 0, none⟩)] 101)).frozen? ⟨w.heap.size, m, none⟩ = false := fun m => (World.frozen?_of_block (w := wr) (hx.block w.heap.size (by omega))).trans (z' m)
        have x2 := xz 0
        have x3 := xz 1
        go_wp2_with fail
        refine bodyPost_ret (v := .tuple #[.agg #[.int .i64 (x.sz j), .pointer (some ⟨(x.S j).r, 0, none⟩)], .bool true]) (by simp [results, Try.results54, go_sem, x0, x1]) rfl ?_
        exact ⟨by rw [if_pos hlt], ((onB' HBR.out.2 hx).setCell (by simp) _).setCell (by simp) _⟩
      · have g1 := HC.out.low j (by omega)
        have e1 : decide (size ≤ x.sz j) = false := decide_eq_false (by omega)
        go_wp2_with fail
        exact ⟨⟨j + 1, by omega, by go_num, HBR.out.1.alloc hs _⟩, by simp [intOf]; omega⟩
    · have z0 := z' 0
      have z1 := z' 1
      go_wp2_with fail
      refine bodyPost_ret (v := .tuple #[.agg #[.int .i64 0, .pointer none], .bool false]) (by simp [results, Try.results54, go_sem, b0, b1]) rfl ?_
      exact ⟨by rw [if_neg (by omega)], (HBR.out.2.setCell (by simp) _).setCell (by simp) _⟩

end Go.Proofs.Ytbjlpmjalidfkaa
