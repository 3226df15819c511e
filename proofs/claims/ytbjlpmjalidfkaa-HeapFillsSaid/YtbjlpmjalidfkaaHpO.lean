/- A configuration that came in, opened. -/
import Derived.Test.YtbjlpmjalidfkaaHpB
import Derived.Deep.Slices
import Derived.ChangeSame
import Derived.OpenShut
import Derived.ProofKit
namespace Go.Proofs.Ytbjlpmjalidfkaa
open Go.RowKit Go.ChangeShapes Go.WideShapes

section
open Go.Deep Go.ChangeShapes Go.WideShapes
variable {H : Type} {enc : TypeId × Value → H} {P : Program} {w : World} {base : Nat} {spare : Nat → Bool} {held : Bool}
/-- A slice of integers, opened at every index. -/
theorem open_row {t e : TypeId} {fuel : Nat} {cs : List Value} {x : DataW H × List MemPlace} (ht : P.underlying t = some (.slice e)) (he : P.underlying e = some (.int .i64)) (ce : P.cellsOf e = 1)
    (h : DataW.trod enc P w base spare held fuel t cs = some x) :
    cs = [.slice none 0 0] ∨
    ∃ (a : Addr) (len cap : Nat) (A : Nat → Int), cs = [.slice (some a) len cap] ∧ len ≤ cap ∧ cap ≤ maxLen ∧ ∀ i, i < len → w.cell? (a.add i) = some (.int .i64 (A i)) ∧ (Lit.int .i64 (A i)).wf = true := by
  rcases open_slice ht h with ⟨h0, _⟩ | ⟨a, len, cap, m, n, D, Pl, rfl, hb, hl, hm, hmm, rfl, hx⟩
  · exact Or.inl h0
  right
  have hlm : len ≤ m := by rw [hmm]; split <;> omega
  have each : ∀ i, i < len → ∃ q : Int, w.cell? (a.add i) = some (.int .i64 q) ∧ (Lit.int .i64 q).wf = true := by
    intro i hi
    obtain ⟨cs', h1, h2⟩ := hx i (by omega)
    rw [ce] at h1
    obtain ⟨_, hlen, hcell⟩ := World.cells?_some h1
    match cs', hlen with
    | [v0], _ =>
      have e0 := hcell 0 (by omega)
      rw [add_add] at e0
      obtain ⟨z0, hz0, _, w0⟩ := DataW.trod_int he h2
      obtain rfl : v0 = .int .i64 z0 := by simpa using hz0
      exact ⟨z0, by simpa using e0, w0⟩
  obtain ⟨q, hq⟩ := choose_lt each
  exact ⟨a, len, cap, q, rfl, hl, hm, hq⟩
end

theorem und_config : Try.prog.underlying 44 = some (.struct (Try.prog.fieldsOf 44)) := by kernel_rfl
theorem field_of {fs : Array Field} {i t o : Nat} (h : (fs[i]?.map fun f => (f.type, f.offset)) = some (t, o)) : ∃ f, fs[i]? = some f ∧ f.type = t ∧ f.offset = o := by
  cases e : fs[i]? with
  | none => rw [e] at h; cases h
  | some f =>
    rw [e] at h
    simp only [Option.map_some, Option.some.injEq, Prod.mk.injEq] at h
    exact ⟨f, rfl, h.1, h.2⟩

set_option maxHeartbeats 1000000 in
set_option maxRecDepth 100000 in
theorem open_config {H : Type} {enc : TypeId × Value → H} {w : World} {base : Nat} {spare : Nat → Bool} {held : Bool} {r : Reach} {b0 : Nat} {v : Value} {d : DataW H} {p : List MemPlace}
    (hv : Value.okWide Try.prog w r b0 44 v) (h : DataW.Trod enc Try.prog w base spare held 44 v d p) :
    ∃ (words large x2 x3 x4 x5 : Int) (a0 : Option Addr) (len cap : Nat) (vs : Nat → Int), v = .agg #[.int .i64 words, .int .i64 large, .int .i64 x2, .int .i64 x3, .int .i64 x4, .int .i64 x5, .slice a0 len cap] ∧ Sizes w a0 len vs := by
  obtain ⟨cs, rfl, hcs⟩ := okWide_struct und_config hv
  obtain ⟨fuel, hf⟩ := h
  obtain ⟨xs, n, rfl, -, hlen, hxl, hpart⟩ := DataW.trod_struct und_config hf
  have hsz : Try.prog.cellsOf 44 = 7 := by kernel_rfl
  rw [hsz] at hcs
  obtain ⟨l, rfl⟩ : ∃ l : List Value, cs = l.toArray := ⟨cs.toList, by simp⟩
  match l, hcs with
  | [v0, v1, v2, v3, v4, v5, v6], _ =>
    have hfs : (Try.prog.fieldsOf 44).size = 7 := by kernel_rfl
    rw [hfs] at hxl
    have c1 : Try.prog.cellsOf 3 = 1 := by kernel_rfl
    have c7 : Try.prog.cellsOf 37 = 1 := by kernel_rfl
    have part : ∀ i t, ((Try.prog.fieldsOf 44)[i]?.map fun f => (f.type, f.offset)) = some (t, i) → Try.prog.cellsOf t = 1 → i < 7 → ∃ y, DataW.trod enc Try.prog w base spare held n t (([v0, v1, v2, v3, v4, v5, v6].drop i).take 1) = some y := fun i t hi h1 h7 => by
      obtain ⟨f, e1, e2, e3⟩ := field_of hi
      have := hpart i f e1
      rw [e2, e3, h1] at this
      obtain ⟨y, hy⟩ : ∃ y, xs[i]? = some y := ⟨_, List.getElem?_eq_getElem (by omega)⟩
      exact ⟨y, by simpa [Value.cells] using this.trans hy⟩
    have num : ∀ i u, ((Try.prog.fieldsOf 44)[i]?.map fun f => (f.type, f.offset)) = some (3, i) → i < 7 → ([v0, v1, v2, v3, v4, v5, v6].drop i).take 1 = [u] → ∃ k : Int, u = .int .i64 k := fun i u hi h7 hu => by
      obtain ⟨y, hy⟩ := part i 3 hi c1 h7
      rw [hu] at hy
      obtain ⟨k, hk, _⟩ := DataW.trod_int Try.underlying3 hy
      simp only [List.cons.injEq, and_true] at hk
      exact ⟨k, hk⟩
    obtain ⟨k0, rfl⟩ := num 0 v0 (by kernel_rfl) (by omega) rfl
    obtain ⟨k1, rfl⟩ := num 1 v1 (by kernel_rfl) (by omega) rfl
    obtain ⟨k2, rfl⟩ := num 2 v2 (by kernel_rfl) (by omega) rfl
    obtain ⟨k3, rfl⟩ := num 3 v3 (by kernel_rfl) (by omega) rfl
    obtain ⟨k4, rfl⟩ := num 4 v4 (by kernel_rfl) (by omega) rfl
    obtain ⟨k5, rfl⟩ := num 5 v5 (by kernel_rfl) (by omega) rfl
    obtain ⟨y, hy⟩ := part 6 37 (by kernel_rfl) c7 (by omega)
    simp only [List.drop_succ_cons, List.drop_zero, List.take_succ_cons, List.take_zero] at hy
    rcases open_row Try.underlying37 Try.underlying3 (by kernel_rfl) hy with hcs | ⟨a, len', cap', A, hcs, hl, hm, hcell⟩
    · simp only [List.cons.injEq, and_true] at hcs
      exact ⟨k0, k1, k2, k3, k4, k5, none, 0, 0, fun _ => 0, by rw [hcs], fun h => absurd h (Nat.lt_irrefl _)⟩
    · simp only [List.cons.injEq, and_true] at hcs
      refine ⟨k0, k1, k2, k3, k4, k5, some a, len', cap', A, by rw [hcs], fun h0 => ?_⟩
      obtain ⟨b, off, sp⟩ := a
      have hspot : sp = none := by simpa [Addr.add] using World.cell?_spot (hcell 0 h0).1
      subst hspot
      have hb : b < w.heap.size := by
        have := World.block_lt_of_cell? _ _ (hcell 0 h0).1
        rwa [add_plain] at this
      exact ⟨b, off, rfl, hb, fun k hk => by have := (hcell k hk).1; rwa [add_plain] at this⟩

end Go.Proofs.Ytbjlpmjalidfkaa
