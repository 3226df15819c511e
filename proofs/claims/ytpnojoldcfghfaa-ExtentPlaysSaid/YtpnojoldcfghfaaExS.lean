/- A row of pairs that a law makes, while room turns beside it; numbers of an argument, opened. -/
import Derived.Test.YtpnojoldcfghfaaExO
import Derived.Test.YtpnojoldcfghfaaExR
namespace Go.Proofs.Ytpnojoldcfghfaa
open Go.RowKit Go.Sort

theorem whole_eq (F N : Int) : whole F N = wholeQ F N := rfl

/-- The numbers of an argument. -/
def Ints (w : World) (a0 : Option Addr) (len : Nat) : Prop :=
  0 < len → ∃ b off, a0 = some ⟨b, off, none⟩ ∧ b < w.heap.size ∧ ∃ Z : Nat → Int, ∀ k, k < len → w.cell? ⟨b, off + k, none⟩ = some (.int .i64 (Z k))

open Go.ChangeShapes Go.WideShapes in
theorem ints_of {H : Type} {enc : TypeId × Value → H} {w : World} {fuel : Nat} {a0 : Option Addr} {len cap : Nat} {x : DataW H × List MemPlace}
    (h : DataW.trod enc Try.prog w 0 (fun _ => true) true fuel 42 [.slice a0 len cap] = some x) : Ints w a0 len ∧ len ≤ 9223372036854775807 := by
  rcases open_ints Try.underlying42 Try.underlying3 (show Try.prog.cellsOf 3 = 1 by kernel_rfl) h with ⟨hcs, _⟩ | ⟨a, len', cap', zs, hcs, _, hl, hm, hz, _, hcell, _⟩
  · simp at hcs
    obtain ⟨rfl, rfl, rfl⟩ := hcs
    exact ⟨fun h => absurd h (Nat.lt_irrefl _), by omega⟩
  · simp at hcs
    obtain ⟨rfl, rfl, rfl⟩ := hcs
    unfold maxLen at hm
    refine ⟨fun h0 => ?_, by omega⟩
    simp only [if_true] at hz
    obtain ⟨b, off, sp⟩ := a
    have hspot : sp = none := by simpa [Addr.add] using World.cell?_spot (hcell 0 (by omega))
    subst hspot
    have hb : b < w.heap.size := by
      have := World.block_lt_of_cell? _ _ (hcell 0 (by omega))
      rwa [add_plain] at this
    exact ⟨b, off, rfl, hb, fun k => zs.getD k 0, fun k hk => by rw [← add_plain]; exact hcell k (by omega)⟩

/-- A pair more, behind a row that the call makes: and where it lies. -/
theorem append_pair2 {ops : Array Oper} {rest : List Oper} {o : Oper} {a : Act} {Q : Exit → Act → World → Prop} (W : World) (hgd : o.guard = none) (s x : Operand)
    (ho : o.op = .call { callee := .builtin .append, args := #[s, x], argTypes := #[38, 38] }) (B k : Nat) (v : Value) (L : List (Int × Int)) (y : Int × Int) (b : Nat) (hs : a.eval s = v) (hown : W.ownsRow B 45 2 v k (flat L))
    (hx : a.eval x = .slice (some ⟨b, 0, none⟩) 1 1) (hb : W.heap[b]? = some (.cells #[.int .i64 y.1, .int .i64 y.2] 45 (0, 0))) (hk : k ≤ 100000) (hB : B ≤ W.heap.size) (H : Nat) (hH : W.heap.size = H)
    (h : ∀ g cap w', w'.ownsRow B 45 2 (.slice (some ⟨g, 0, none⟩) (k + 1) cap) (k + 1) (flat (L ++ [y])) → W.grownBy w' v.ownBlock → (v.ownBlock = some g ∨ g = H) → wpList Try.prog ops Q rest (a.put o.dst (.slice (some ⟨g, 0, none⟩) (k + 1) cap)) w') : wpList Try.prog ops Q (o :: rest) a W := by
  obtain ⟨i0, hi0, hz0, hzs, hzb⟩ := info_parts Try.info_two
  refine wpList_append_lies W hgd s x 38 ho B 45 i0 _ 2 16 Try.underlying38 hi0 hz0 hzs hzb rfl (by decide) v k (flat L) hs hown ⟨b, 0, none⟩ 1 1 [Value.int .i64 y.1, .int .i64 y.2] hx rfl (World.news_of_block hb) (by intro u hu; simp at hu; rcases hu with rfl | rfl <;> rfl) (by decide) (by unfold maxLen; omega) (by omega) hB H hH ?_
  intro g cap w' h1 h2 h3 _
  refine h g cap w' ?_ h2 h3
  rw [flat_append]
  exact h1
theorem blk1 (w : World) (o : Obj) : (w.alloc o).heap[w.heap.size]? = some o := heap_alloc_new w o

/-- A row beside room. -/
structure Got (B p g : Nat) (v : Value) (k : Nat) (G : List (Int × Int)) (W : World) : Prop where
  len : G.length = k
  own : W.ownsRow B 45 2 v k (flat G)
  off : ∀ j, v.ownBlock = some j → j ≠ p ∧ j ≠ g
theorem Got.start (B p g : Nat) (W : World) : Got B p g (.slice none 0 0) 0 [] W := ⟨rfl, World.ownsRow_nil _ _ _ _, fun j hj => by simp [Value.ownBlock] at hj⟩
theorem own_move {w w' : World} {B k : Nat} {v : Value} {xs : List Value} (h : w.ownsRow B 45 2 v k xs) (e : ∀ j, v.ownBlock = some j → w'.heap[j]? = w.heap[j]?) : w'.ownsRow B 45 2 v k xs := by
  refine ⟨h.1, ?_⟩
  rcases h.2 with h' | ⟨g, cap, cur, rfl, h1, h2, h3⟩
  · exact Or.inl h'
  · exact Or.inr ⟨g, cap, cur, rfl, h1, (e g rfl).trans h2, h3⟩
theorem Got.later {B p g k : Nat} {v : Value} {G : List (Int × Int)} {W W' : World} (h : Got B p g v k G W) (hb : Below W.heap.size W W') : Got B p g v k G W' :=
  ⟨h.len, own_move h.own fun j hj => hb.block j (h.own.lt j hj).2, h.off⟩
theorem Got.step {B p g g' k : Nat} {v : Value} {G : List (Int × Int)} {W W' : World} (h : Got B p g v k G W) (hq : Apart p g W W') (hg : g' = g ∨ W.heap.size ≤ g') : Got B p g' v k G W' :=
  ⟨h.len, own_move h.own fun j hj => hq.block j (h.own.lt j hj).2 (h.off j hj).1 (h.off j hj).2, fun j hj => ⟨(h.off j hj).1, by have := (h.off j hj).2; have := (h.own.lt j hj).2; omega⟩⟩
theorem Got.listed {B p g k : Nat} {v : Value} {G : List (Int × Int)} {W : World} (h : Got B p g v k G W) : ∃ ao c, v = .slice ao k c ∧ Listed W ao G := Listed.of_own h.own h.len
/-- Room stays while the row grows. -/
theorem Mid.row {w W W' : World} {B p g k : Nat} {F N : Int} {L G : List (Int × Int)} {v : Value} (h : Mid w p g F N L W) (hG : Got B p g v k G W) (hB : w.heap.size ≤ B) (hg : W.grownBy W' v.ownBlock) : Mid w p g F N L W' := by
  refine ⟨h.room.move (hg.block p h.room.lp fun e => (hG.off p e.symm).1 rfl) (hg.block g h.room.lg fun e => (hG.off g e.symm).2 rfl) hg.size, ?_, h.lp, h.lg⟩
  exact h.below.grown hg h.below.size fun j hj => Nat.le_trans hB (hG.own.lt j hj).1
theorem Got.more {w W W' : World} {B p g k g' cap' : Nat} {F N : Int} {L G : List (Int × Int)} {v : Value} {y : Int × Int} (h : Mid w p g F N L W) (hG : Got B p g v k G W)
    (hO : W'.ownsRow B 45 2 (.slice (some ⟨g', 0, none⟩) (k + 1) cap') (k + 1) (flat (G ++ [y]))) (hat : v.ownBlock = some g' ∨ g' = W.heap.size) : Got B p g (.slice (some ⟨g', 0, none⟩) (k + 1) cap') (k + 1) (G ++ [y]) W' := by
  refine ⟨by simp [hG.len], hO, fun j hj => ?_⟩
  simp [Value.ownBlock] at hj
  subst hj
  rcases hat with e | rfl
  · exact hG.off g' e
  · have := h.room.lp
    have := h.room.lg
    omega

theorem Got.row2 {B p g k : Nat} {v v0 : Value} {G : List (Int × Int)} {W W' : World} (h : Got B p g v k G W') (_ : W.grownBy W' v0.ownBlock) : Got B p g v k G W' := h

end Go.Proofs.Ytpnojoldcfghfaa
