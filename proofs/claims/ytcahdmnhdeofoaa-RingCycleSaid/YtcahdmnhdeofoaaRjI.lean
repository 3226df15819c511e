/- The numbers of an argument, opened. -/
import Derived.Test.YtcahdmnhdeofoaaRjG
namespace Go.Proofs.Ytcahdmnhdeofoaa
open Go.RowKit

section
open Go.Deep Go.ChangeShapes Go.WideShapes
variable {H : Type} {enc : TypeId × Value → H} {P : Program} {w : World} {base : Nat} {spare : Nat → Bool} {held : Bool}
/-- A slice of integers, opened at every index. -/
theorem open_row {t e : TypeId} {fuel : Nat} {cs : List Value} {x : DataW H × List MemPlace} (ht : P.underlying t = some (.slice e)) (he : P.underlying e = some (.int .i64)) (ce : P.cellsOf e = 1)
    (h : DataW.trod enc P w base spare held fuel t cs = some x) :
    cs = [.slice none 0 0] ∨
    ∃ (a : Addr) (len cap : Nat) (A : Nat → Int), cs = [.slice (some a) len cap] ∧ len ≤ cap ∧ cap ≤ maxLen ∧ ∀ i, i < len → w.cell? (a.add i) = some (.int .i64 (A i)) ∧ (Lit.int .i64 (A i)).wf = true := by
  rcases open_slice ht h with ⟨h0, _⟩ | ⟨a, len, cap, m, n, D, Pl, rfl, hb, hl, hm, hmm, rfl, hx⟩
  · exact Or.inl h0
  right
  have hlm : len ≤ m := by rw [hmm]; split <;> omega
  have each : ∀ i, i < len → ∃ q : Int, w.cell? (a.add i) = some (.int .i64 q) ∧ (Lit.int .i64 q).wf = true := by
    intro i hi
    obtain ⟨cs', h1, h2⟩ := hx i (by omega)
    rw [ce] at h1
    obtain ⟨_, hlen, hcell⟩ := World.cells?_some h1
    match cs', hlen with
    | [v0], _ =>
      have e0 := hcell 0 (by omega)
      rw [add_add] at e0
      obtain ⟨z0, hz0, _, w0⟩ := DataW.trod_int he h2
      obtain rfl : v0 = .int .i64 z0 := by simpa using hz0
      exact ⟨z0, by simpa using e0, w0⟩
  obtain ⟨q, hq⟩ := choose_lt each
  exact ⟨a, len, cap, q, rfl, hl, hm, hq⟩
end

/-- The numbers of an argument. -/
def Nums (w : World) (a0 : Option Addr) (len : Nat) : Prop :=
  0 < len → ∃ b off, a0 = some ⟨b, off, none⟩ ∧ b < w.heap.size ∧ ∃ A : Nat → Int, ∀ k, k < len → w.cell? ⟨b, off + k, none⟩ = some (.int .i64 (A k)) ∧ (Lit.int .i64 (A k)).wf = true

open Go.ChangeShapes Go.WideShapes in
theorem ints_of {H : Type} {enc : TypeId × Value → H} {w : World} {base : Nat} {spare : Nat → Bool} {held : Bool} {fuel : Nat} {a0 : Option Addr} {len cap : Nat} {x : DataW H × List MemPlace}
    (h : DataW.trod enc Try.prog w base spare held fuel 37 [.slice a0 len cap] = some x) : Nums w a0 len ∧ len ≤ 9223372036854775807 := by
  rcases open_row Try.underlying37 Try.underlying3 (by kernel_rfl) h with hcs | ⟨a, len', cap', A, hcs, hl, hm, hcell⟩
  · simp at hcs
    obtain ⟨rfl, rfl, rfl⟩ := hcs
    exact ⟨fun h => absurd h (Nat.lt_irrefl _), by omega⟩
  · simp at hcs
    obtain ⟨rfl, rfl, rfl⟩ := hcs
    unfold maxLen at hm
    refine ⟨fun h0 => ?_, by omega⟩
    obtain ⟨b, off, sp⟩ := a
    have hspot : sp = none := by simpa [Addr.add] using World.cell?_spot (hcell 0 h0).1
    subst hspot
    have hb : b < w.heap.size := by
      have := World.block_lt_of_cell? _ _ (hcell 0 h0).1
      rwa [add_plain] at this
    exact ⟨b, off, rfl, hb, A, fun k hk => ⟨by have := (hcell k hk).1; rwa [add_plain] at this, (hcell k hk).2⟩⟩

end Go.Proofs.Ytcahdmnhdeofoaa
