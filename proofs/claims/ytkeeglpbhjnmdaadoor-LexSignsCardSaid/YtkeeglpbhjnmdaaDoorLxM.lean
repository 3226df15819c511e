/- A token is not unlike itself; how many tokens there may be. -/
import Derived.Test.YtkeeglpbhjnmdaaDoorLxL
namespace Go.Proofs.YtkeeglpbhjnmdaaDoor
open Go.RowKit Go.Lib

theorem own_max {W : World} {base : Nat} {v : Value} {n : Nat} {xs : List Value} (h : W.ownsRow base 35 5 v n xs) : n ≤ maxLen := by
  rcases h.2 with ⟨_, e2⟩ | ⟨g, cap, cur, e, hg, hb, h1, h2, -⟩
  · omega
  · exact Nat.le_trans h1 h2
theorem tok_neq (k : Int) (b : ByteArray) (f : Bool) (x line : Int) (w : World) : (binOp .neq 35 (.agg #[.int .i64 k, .string b, .bool f, .int .u64 x, .int .i64 line]) (.agg #[.int .i64 k, .string b, .bool f, .int .u64 x, .int .i64 line])).run Tryd.prog w = .ok (.bool false) w := by
  have he : (Op.equal 35 (.agg #[.int .i64 k, .string b, .bool f, .int .u64 x, .int .i64 line]) (.agg #[.int .i64 k, .string b, .bool f, .int .u64 x, .int .i64 line])).run Tryd.prog w = .ok true w := tok_refl k b f x line w
  generalize hq : Op.equal = E at he
  simp [binOp, hq, he]

end Go.Proofs.YtkeeglpbhjnmdaaDoor
