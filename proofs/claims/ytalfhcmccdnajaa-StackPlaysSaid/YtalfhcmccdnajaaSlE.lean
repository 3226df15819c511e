/- The document's Push: its steps. -/
import Derived.Test.YtalfhcmccdnajaaSlD
namespace Go.Proofs.Ytalfhcmccdnajaa
open Go.RowKit Go.Sort

theorem belowA {w W : World} (h : Below w.heap.size w W) (o : Obj) : Below w.heap.size w (W.alloc o) := h.alloc h.size o
/-- append grows a block that is new, or lays a newer one. -/
theorem belowG {w W W' : World} {b : Nat} (h : Below w.heap.size w W) (g : W.grownBy W' (some b)) (hb : w.heap.size ≤ b) : Below w.heap.size w W' :=
  h.trans (by
    obtain ⟨e1, e2, e3, e4, e5⟩ := g
    exact ⟨e1, e2, e3, e4, fun k hk => e5 k (Nat.lt_of_lt_of_le hk h.size) (by simp; omega)⟩)
/-- append of all of a list onto an empty one, as a step of a drawn region. -/
theorem step_all {ops : Array Oper} {o : Oper} {a : Act} {K : Act → World → Prop} {Q : Exit → Act → World → Prop} {E : Prop} (hgd : o.guard = none) (s x : Operand) (ho : o.op = .call { callee := .builtin .append, args := #[s, x], argTypes := #[TL, TL] })
    (w : World) (b : Nat) (hs : a.eval s = .slice (some ⟨b, 0, none⟩) 0 0) (hb : w.heap[b]? = some (.cells #[] TF (0, 0))) (xv : Value) (B : List Fr) (hx : a.eval x = xv) (hB : FsAt w xv B) (hn : B.length ≤ 100000)
    (h : ∀ v' w', FsAt w' v' B → w.grownBy w' (some b) → (v'.ownBlock = some b ∨ v'.ownBlock = some w.heap.size) → K (a.put o.dst v') w') :
    if Region.wanted o (yielded ops a.tmps) = true then Oper.wp Try.prog o a w K Q else E := by
  obtain ⟨v', w', hr, h1, h2, h3⟩ := run_all o.type w b hb xv B hB hn
  exact step_run hgd s x ho w w' _ xv v' hs hx hr (h v' w' h1 h2 h3)
/-- append of all signs onto an empty list of them. -/
theorem list_allb {ops : Array Oper} {rest : List Oper} {o : Oper} {a : Act} {Q : Exit → Act → World → Prop} (hgd : o.guard = none) (s x : Operand) (ho : o.op = .call { callee := .builtin .append, args := #[s, x], argTypes := #[TBL, TBL] })
    (w : World) (b : Nat) (hs : a.eval s = .slice (some ⟨b, 0, none⟩) 0 0) (hb : w.heap[b]? = some (.cells #[] TB (0, 0))) (xv : Value) (B : List Bool) (hx : a.eval x = xv) (hB : BsAt w xv B) (hn : B.length ≤ 100000)
    (h : ∀ v' w', BsAt w' v' B → w.grownBy w' (some b) → (v'.ownBlock = some b ∨ v'.ownBlock = some w.heap.size) → wpList Try.prog ops Q rest (a.put o.dst v') w') : wpList Try.prog ops Q (o :: rest) a w := by
  obtain ⟨v', w', hr, h1, h2, h3⟩ := run_allb o.type w b hb xv B hB hn
  exact list_run hgd s x ho w w' _ xv v' hs hx hr (h v' w' h1 h2 h3)
/-- A sign more, as the next operation. -/
theorem list_pushb {ops : Array Oper} {rest : List Oper} {o : Oper} {a : Act} {Q : Exit → Act → World → Prop} (hgd : o.guard = none) (s x : Operand) (ho : o.op = .call { callee := .builtin .append, args := #[s, x], argTypes := #[TBL, TBL] })
    (w : World) (v : Value) (B : List Bool) (hs : a.eval s = v) (hB : BsAt w v B) (hn : B.length ≤ 100000) (b c : Nat) (hx : a.eval x = .slice (some ⟨b, 0, none⟩) 1 c) (y : Bool) (hy : w.cell? ((⟨b, 0, none⟩ : Addr).add 0) = some (.bool y))
    (h : ∀ v' w', BsAt w' v' (B ++ [y]) → w.grownBy w' v.ownBlock → (v'.ownBlock = v.ownBlock ∨ v'.ownBlock = some w.heap.size) → wpList Try.prog ops Q rest (a.put o.dst v') w') : wpList Try.prog ops Q (o :: rest) a w := by
  obtain ⟨v', w', hr, h1, h2, h3⟩ := run_pushb o.type w v B hB hn ⟨b, 0, none⟩ c y hy
  exact list_run hgd s x ho w w' v _ v' hs hx hr (h v' w' h1 h2 h3)

end Go.Proofs.Ytalfhcmccdnajaa
