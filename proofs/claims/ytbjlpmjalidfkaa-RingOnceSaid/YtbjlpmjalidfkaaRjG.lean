/- The acts of an argument, opened. -/
import Derived.Test.YtbjlpmjalidfkaaRjF
namespace Go.Proofs.Ytbjlpmjalidfkaa
open Go.RowKit

section
open Go.Deep Go.ChangeShapes Go.WideShapes
variable {H : Type} {enc : TypeId × Value → H} {P : Program} {w : World} {base : Nat} {spare : Nat → Bool} {held : Bool}
/-- A slice of structs of two integers, opened at every index. -/
theorem open_pairs {t e : TypeId} {f0 f1 : Field} {fuel : Nat} {cs : List Value} {x : DataW H × List MemPlace} (ht : P.underlying t = some (.slice e)) (he : P.underlying e = some (.struct #[f0, f1]))
    (ce : P.cellsOf e = 2) (o0 : f0.offset = 0) (o1 : f1.offset = 1) (c0 : P.cellsOf f0.type = 1) (c1 : P.cellsOf f1.type = 1) 
    (u0 : P.underlying f0.type = some (.int .i64)) (u1 : P.underlying f1.type = some (.int .i64))
    (h : DataW.trod enc P w base spare held fuel t cs = some x) :
    cs = [.slice none 0 0] ∨
    ∃ (a : Addr) (len cap : Nat) (K A : Nat → Int), cs = [.slice (some a) len cap] ∧ len ≤ cap ∧ cap ≤ maxLen ∧
      ∀ i, i < len → w.cell? (a.add (i * 2)) = some (.int .i64 (K i)) ∧ w.cell? (a.add (i * 2 + 1)) = some (.int .i64 (A i)) ∧
        (Lit.int .i64 (K i)).wf = true ∧ (Lit.int .i64 (A i)).wf = true := by
  rcases open_slice ht h with ⟨h0, _⟩ | ⟨a, len, cap, m, n, D, Pl, rfl, hb, hl, hm, hmm, rfl, hx⟩
  · exact Or.inl h0
  right
  have hlm : len ≤ m := by rw [hmm]; split <;> omega
  have each : ∀ i, i < len → ∃ q : Int × Int, w.cell? (a.add (i * 2)) = some (.int .i64 q.1) ∧ w.cell? (a.add (i * 2 + 1)) = some (.int .i64 q.2) ∧
        (Lit.int .i64 q.1).wf = true ∧ (Lit.int .i64 q.2).wf = true := by
    intro i hi
    obtain ⟨cs', h1, h2⟩ := hx i (by omega)
    rw [ce] at h1
    obtain ⟨_, hlen, hcell⟩ := World.cells?_some h1
    obtain ⟨xs, k, hk, hxy, _, hxl, hf⟩ := DataW.trod_struct he h2
    match xs, hxl, cs', hlen with
    | [y0, y1], _, [v0, v1], _ =>
      have g0 := hf 0 f0 rfl
      have g1 := hf 1 f1 rfl
      simp [o0, o1, c0, c1] at g0 g1
      have e0 := hcell 0 (by omega)
      have e1 := hcell 1 (by omega)
      rw [add_add] at e0 e1
      obtain ⟨z0, hz0, _, w0⟩ := DataW.trod_int u0 g0
      obtain ⟨z1, hz1, _, w1⟩ := DataW.trod_int u1 g1
      obtain rfl : v0 = .int .i64 z0 := by simpa using hz0
      obtain rfl : v1 = .int .i64 z1 := by simpa using hz1
      exact ⟨(z0, z1), by simpa using e0, by simpa using e1, w0, w1⟩
  obtain ⟨q, hq⟩ := choose_lt each
  exact ⟨a, len, cap, fun i => (q i).1, fun i => (q i).2, rfl, hl, hm, hq⟩
end

/-- The acts of an argument. -/
def Acts (w : World) (a0 : Option Addr) (len : Nat) : Prop :=
  0 < len → ∃ b off, a0 = some ⟨b, off, none⟩ ∧ b < w.heap.size ∧ ∃ K A : Nat → Int, ∀ k, k < len → w.cell? ⟨b, off + k * 2, none⟩ = some (.int .i64 (K k)) ∧ w.cell? ⟨b, off + k * 2 + 1, none⟩ = some (.int .i64 (A k))

open Go.ChangeShapes Go.WideShapes in
theorem acts_of {H : Type} {enc : TypeId × Value → H} {w : World} {base : Nat} {spare : Nat → Bool} {held : Bool} {fuel : Nat} {a0 : Option Addr} {len cap : Nat} {x : DataW H × List MemPlace}
    (h : DataW.trod enc Try.prog w base spare held fuel 22 [.slice a0 len cap] = some x) : Acts w a0 len ∧ len ≤ 9223372036854775807 := by
  rcases open_pairs Try.underlying22 Try.underlying32 (by kernel_rfl) rfl rfl (by kernel_rfl) (by kernel_rfl) Try.underlying3 Try.underlying3 h with hcs | ⟨a, len', cap', K, A, hcs, hl, hm, hcell⟩
  · simp at hcs
    obtain ⟨rfl, rfl, rfl⟩ := hcs
    exact ⟨fun h => absurd h (Nat.lt_irrefl _), by omega⟩
  · simp at hcs
    obtain ⟨rfl, rfl, rfl⟩ := hcs
    unfold maxLen at hm
    refine ⟨fun h0 => ?_, by omega⟩
    obtain ⟨b, off, sp⟩ := a
    have hspot : sp = none := by simpa [Addr.add] using World.cell?_spot (hcell 0 h0).1
    subst hspot
    have hb : b < w.heap.size := by
      have := World.block_lt_of_cell? _ _ (hcell 0 h0).1
      rwa [add_plain] at this
    exact ⟨b, off, rfl, hb, K, A, fun k hk => ⟨by have := (hcell k hk).1; rwa [add_plain] at this, by have := (hcell k hk).2.1; rwa [add_plain] at this⟩⟩

end Go.Proofs.Ytbjlpmjalidfkaa
