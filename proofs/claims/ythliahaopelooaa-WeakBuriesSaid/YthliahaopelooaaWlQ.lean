/- A row of ints that came in, opened. -/
import Derived.Test.YthliahaopelooaaMg11
import Derived.Deep.Slices
import Derived.ChangeSame
import Derived.OpenShut
import Derived.ProofKit
namespace Go.Proofs.Ythliahaopelooaa
open Go.RowKit Go.ChangeShapes Go.WideShapes

/-- What a row of ints holds. -/
def Nums (w : World) (a : Option Addr) (n : Nat) (ws : Nat → Int) : Prop := ∀ i, i < n → ∃ b off, a = some ⟨b, off, none⟩ ∧ b < w.heap.size ∧ w.cell? ⟨b, off + i, none⟩ = some (.int .i64 (ws i)) ∧ -9223372036854775808 ≤ ws i ∧ ws i ≤ 9223372036854775807

section
open Go.Deep Go.ChangeShapes Go.WideShapes
variable {H : Type} {enc : TypeId × Value → H} {P : Program} {w : World} {base : Nat} {spare : Nat → Bool} {held : Bool}
/-- A slice of integers, opened at every index. -/
theorem open_roww {t e : TypeId} {fuel : Nat} {cs : List Value} {x : DataW H × List MemPlace} (ht : P.underlying t = some (.slice e)) (he : P.underlying e = some (.int .i64)) (ce : P.cellsOf e = 1)
    (h : DataW.trod enc P w base spare held fuel t cs = some x) :
    cs = [.slice none 0 0] ∨
    ∃ (a : Addr) (len cap : Nat) (A : Nat → Int), cs = [.slice (some a) len cap] ∧ len ≤ cap ∧ cap ≤ maxLen ∧ ∀ i, i < len → w.cell? (a.add i) = some (.int .i64 (A i)) ∧ (Lit.int .i64 (A i)).wf = true := by
  rcases open_slice ht h with ⟨h0, _⟩ | ⟨a, len, cap, m, n, D, Pl, rfl, hb, hl, hm, hmm, rfl, hx⟩
  · exact Or.inl h0
  right
  have hlm : len ≤ m := by rw [hmm]; split <;> omega
  have each : ∀ i, i < len → ∃ q : Int, w.cell? (a.add i) = some (.int .i64 q) ∧ (Lit.int .i64 q).wf = true := by
    intro i hi
    obtain ⟨cs', h1, h2⟩ := hx i (by omega)
    rw [ce] at h1
    obtain ⟨_, hlen, hcell⟩ := World.cells?_some h1
    match cs', hlen with
    | [v0], _ =>
      have e0 := hcell 0 (by omega)
      rw [add_add] at e0
      obtain ⟨z0, hz0, _, w0⟩ := DataW.trod_int he h2
      obtain rfl : v0 = .int .i64 z0 := by simpa using hz0
      exact ⟨z0, by simpa using e0, w0⟩
  obtain ⟨q, hq⟩ := choose_lt each
  exact ⟨a, len, cap, q, rfl, hl, hm, hq⟩
end
theorem wf_bounds {a : Int} (h : (Lit.int .i64 a).wf = true) : -9223372036854775808 ≤ a ∧ a ≤ 9223372036854775807 := by
  have hmin : IntKind.i64.min = -9223372036854775808 := rfl
  have hmax : IntKind.i64.max = 9223372036854775807 := rfl
  simp only [Lit.wf, Bool.and_eq_true, decide_eq_true_eq] at h
  omega
set_option maxHeartbeats 1000000 in
set_option maxRecDepth 100000 in
theorem open_numsw {H : Type} {enc : TypeId × Value → H} {w : World} {base : Nat} {spare : Nat → Bool} {held : Bool} {r : Reach} {b0 : Nat} {v : Value} {d : DataW H} {p : List MemPlace}
    (hv : Value.okWide Try.prog w r b0 22 v) (h : DataW.Trod enc Try.prog w base spare held 22 v d p) :
    ∃ (a0 : Option Addr) (len cap : Nat) (vs : Nat → Int), v = .slice a0 len cap ∧ Nums w a0 len vs := by
  obtain ⟨a0, len, cap, rfl⟩ := okWide_slice Try.underlying22 hv
  obtain ⟨fuel, hf⟩ := h
  rcases open_roww Try.underlying22 Try.underlying3 (by kernel_rfl) (cs := [.slice a0 len cap]) (by simpa [Value.cells] using hf) with hcs | ⟨a, len', cap', A, hcs, hl, hm, hcell⟩
  · simp only [List.cons.injEq, and_true, Value.slice.injEq] at hcs
    obtain ⟨rfl, rfl, rfl⟩ := hcs
    exact ⟨none, 0, 0, fun _ => 0, rfl, fun i h => absurd h (Nat.not_lt_zero _)⟩
  · simp only [List.cons.injEq, and_true, Value.slice.injEq] at hcs
    obtain ⟨rfl, rfl, rfl⟩ := hcs
    refine ⟨some a, len, cap, A, rfl, fun i hi => ?_⟩
    obtain ⟨b, off, sp⟩ := a
    have hspot : sp = none := by simpa [Addr.add] using World.cell?_spot (hcell 0 (Nat.lt_of_le_of_lt (Nat.zero_le i) hi)).1
    subst hspot
    have hc := (hcell i hi).1
    rw [add_plain] at hc
    exact ⟨b, off, rfl, World.block_lt_of_cell? _ _ hc, hc, wf_bounds (hcell i hi).2⟩
end Go.Proofs.Ythliahaopelooaa
