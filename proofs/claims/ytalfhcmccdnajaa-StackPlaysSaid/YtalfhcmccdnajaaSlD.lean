/- The document's Push: what is put together at its end. -/
import Derived.Test.YtalfhcmccdnajaaSlC
namespace Go.Proofs.Ytalfhcmccdnajaa
open Go.RowKit Go.Sort

theorem todo_push {n left : Nat} (h : left ≤ n) : todo (n + 1) left = todo n left ++ [false] := by
  rw [todo_succ, Nat.min_eq_left h, decide_eq_false (by omega)]
/-- The document's stack, one frame more: lists that lie anew. -/
theorem Rf.more {W : World} {q left : Nat} {vL vT : Value} {room : Int} {L : List Fr} {f : Fr} (c0 : W.cell? ⟨q, 0, none⟩ = some vL) (c1 : W.cell? ⟨q, 1, none⟩ = some vT) (c2 : W.cell? ⟨q, 2, none⟩ = some (.int .i64 room)) (z0 : W.frozen? ⟨q, 0, none⟩ = false) (z1 : W.frozen? ⟨q, 1, none⟩ = false)
    (hle : left ≤ L.length) (hL : FsAt W vL (L ++ [f])) (hT : BsAt W vT (todo L.length left ++ [false])) (nl : vL.ownBlock ≠ some q) (nt : vT.ownBlock ≠ some q) (hlt : vL.ownBlock ≠ none → vL.ownBlock ≠ vT.ownBlock) : Rf W q vL vT room (L ++ [f]) left :=
  ⟨c0, c1, c2, z0, z1, hL, by rw [show (L ++ [f]).length = L.length + 1 by simp, todo_push hle]; exact hT, nl, nt, hlt⟩

end Go.Proofs.Ytalfhcmccdnajaa
