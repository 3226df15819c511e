import Derived.Test.YthcgmfcibjinlaaMg7
import Derived.Test.YthcgmfcibjinlaaMg12
/- Rows of ints and of bools that came in, opened. -/
namespace Go.Proofs.Ythcgmfcibjinlaa
open Go.RowKit Go.ChangeShapes Go.WideShapes

section
open Go.Deep Go.ChangeShapes Go.WideShapes
variable {H : Type} {enc : TypeId × Value → H} {P : Program} {w : World} {base : Nat} {spare : Nat → Bool} {held : Bool}
/-- A slice of bools, opened at every index. -/
theorem open_brow {t e : TypeId} {fuel : Nat} {cs : List Value} {x : DataW H × List MemPlace} (ht : P.underlying t = some (.slice e)) (he : P.underlying e = some .bool) (ce : P.cellsOf e = 1)
    (h : DataW.trod enc P w base spare held fuel t cs = some x) :
    cs = [.slice none 0 0] ∨
    ∃ (a : Addr) (len cap : Nat) (A : Nat → Bool), cs = [.slice (some a) len cap] ∧ len ≤ cap ∧ cap ≤ maxLen ∧ ∀ i, i < len → w.cell? (a.add i) = some (.bool (A i)) := by
  rcases open_slice ht h with ⟨h0, _⟩ | ⟨a, len, cap, m, n, D, Pl, rfl, hb, hl, hm, hmm, rfl, hx⟩
  · exact Or.inl h0
  right
  have hlm : len ≤ m := by rw [hmm]; split <;> omega
  have each : ∀ i, i < len → ∃ q : Bool, w.cell? (a.add i) = some (.bool q) := by
    intro i hi
    obtain ⟨cs', h1, h2⟩ := hx i (by omega)
    rw [ce] at h1
    obtain ⟨_, hlen, hcell⟩ := World.cells?_some h1
    match cs', hlen with
    | [v0], _ =>
      have e0 := hcell 0 (by omega)
      rw [add_add] at e0
      obtain ⟨z0, hz0, _⟩ := DataW.trod_bool he h2
      obtain rfl : v0 = .bool z0 := by simpa using hz0
      exact ⟨z0, by simpa using e0⟩
  obtain ⟨q, hq⟩ := choose_lt each
  exact ⟨a, len, cap, q, rfl, hl, hm, hq⟩
end

set_option maxHeartbeats 1000000 in
set_option maxRecDepth 100000 in
theorem open_nums {H : Type} {enc : TypeId × Value → H} {w : World} {base : Nat} {spare : Nat → Bool} {held : Bool} {r : Reach} {b0 : Nat} {v : Value} {d : DataW H} {p : List MemPlace}
    (hv : Value.okWide Try.prog w r b0 37 v) (h : DataW.Trod enc Try.prog w base spare held 37 v d p) :
    ∃ (a0 : Option Addr) (len cap : Nat) (vs : Nat → Int), v = .slice a0 len cap ∧ Sizes w a0 len vs := by
  obtain ⟨a0, len, cap, rfl⟩ := okWide_slice Try.underlying37 hv
  obtain ⟨fuel, hf⟩ := h
  rcases open_row Try.underlying37 Try.underlying3 (by kernel_rfl) (cs := [.slice a0 len cap]) (by simpa [Value.cells] using hf) with hcs | ⟨a, len', cap', A, hcs, hl, hm, hcell⟩
  · simp only [List.cons.injEq, and_true, Value.slice.injEq] at hcs
    obtain ⟨rfl, rfl, rfl⟩ := hcs
    exact ⟨none, 0, 0, fun _ => 0, rfl, fun h => absurd h (Nat.lt_irrefl _)⟩
  · simp only [List.cons.injEq, and_true, Value.slice.injEq] at hcs
    obtain ⟨rfl, rfl, rfl⟩ := hcs
    refine ⟨some a, len, cap, A, rfl, fun h0 => ?_⟩
    obtain ⟨b, off, sp⟩ := a
    have hspot : sp = none := by simpa [Addr.add] using World.cell?_spot (hcell 0 h0).1
    subst hspot
    have hb : b < w.heap.size := by
      have := World.block_lt_of_cell? _ _ (hcell 0 h0).1
      rwa [add_plain] at this
    exact ⟨b, off, rfl, hb, fun k hk => by have := (hcell k hk).1; rwa [add_plain] at this⟩
set_option maxHeartbeats 1000000 in
set_option maxRecDepth 100000 in
theorem open_bools {H : Type} {enc : TypeId × Value → H} {w : World} {base : Nat} {spare : Nat → Bool} {held : Bool} {r : Reach} {b0 : Nat} {v : Value} {d : DataW H} {p : List MemPlace}
    (hv : Value.okWide Try.prog w r b0 54 v) (h : DataW.Trod enc Try.prog w base spare held 54 v d p) :
    ∃ (a0 : Option Addr) (len cap : Nat) (vs : Nat → Bool), v = .slice a0 len cap ∧ Bools w a0 len vs := by
  obtain ⟨a0, len, cap, rfl⟩ := okWide_slice Try.underlying54 hv
  obtain ⟨fuel, hf⟩ := h
  rcases open_brow Try.underlying54 Try.underlying4 (by kernel_rfl) (cs := [.slice a0 len cap]) (by simpa [Value.cells] using hf) with hcs | ⟨a, len', cap', A, hcs, hl, hm, hcell⟩
  · simp only [List.cons.injEq, and_true, Value.slice.injEq] at hcs
    obtain ⟨rfl, rfl, rfl⟩ := hcs
    exact ⟨none, 0, 0, fun _ => false, rfl, fun h => absurd h (Nat.lt_irrefl _)⟩
  · simp only [List.cons.injEq, and_true, Value.slice.injEq] at hcs
    obtain ⟨rfl, rfl, rfl⟩ := hcs
    refine ⟨some a, len, cap, A, rfl, fun h0 => ?_⟩
    obtain ⟨b, off, sp⟩ := a
    have hspot : sp = none := by simpa [Addr.add] using World.cell?_spot (hcell 0 h0)
    subst hspot
    have hb : b < w.heap.size := by
      have := World.block_lt_of_cell? _ _ (hcell 0 h0)
      rwa [add_plain] at this
    exact ⟨b, off, rfl, hb, fun k hk => by have := hcell k hk; rwa [add_plain] at this⟩

end Go.Proofs.Ythcgmfcibjinlaa
