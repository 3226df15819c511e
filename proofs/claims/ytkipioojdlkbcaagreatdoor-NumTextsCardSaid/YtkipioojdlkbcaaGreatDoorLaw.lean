/- What the number layer answers of ints that are within 64 bits, in plain words; and what the statements' rows give. -/
import Derived.Test.YtkipioojdlkbcaaGreatDoorAwake
import Derived.Test.YtkipioojdlkbcaaGreatDoorRows
import Derived.ProofKit
import Derived.OpenShut
import Derived.Deep.DeepHandedRow
import Derived.Lib.LaidTab
import Derived.Stop.LaidErr
namespace Go.Proofs.YtkipioojdlkbcaaGreatDoor
open Go.RowKit

/-- An int's bits. -/
def U (a : Int) : Int := IntKind.u64.wrap a

/-- Within 64 bits. -/
def InR (a : Int) : Prop := -9223372036854775808 ≤ a ∧ a ≤ 9223372036854775807

theorem U_eq (a : Int) : U a = a % 18446744073709551616 := by unfold U; exact IntKind.wrap_u64 a
theorem wrap64_U (a : Int) (h : InR a) : wrap64 (U a) = a := by obtain ⟨h1, h2⟩ := h; rw [U_eq]; unfold wrap64; omega
theorem U_wrap64 (a : Int) : U (wrap64 a) = U a := by rw [U_eq, U_eq]; unfold wrap64; omega
theorem InR_wrap64 (a : Int) : InR (wrap64 a) := wrap64_range a
theorem i64wrap (a : Int) : IntKind.i64.wrap a = wrap64 a := by unfold wrap64; exact IntKind.wrap_i64 a
theorem U_inj {a b : Int} (ha : InR a) (hb : InR b) (h : U a = U b) : a = b := by rw [← wrap64_U a ha, ← wrap64_U b hb, h]

theorem int_U (a : Int) (w : World) : Calls Tryz.prog 11 #[.int .i64 a] w fun e w' => e = .returned (.agg #[.bool false, .int .u64 (U a)]) ∧ Below w.heap.size w w' := int_any a w

def tab32 : List Int := [0, 1, 28, 2, 29, 14, 24, 3, 30, 22, 20, 15, 25, 17, 4, 8, 31, 27, 13, 23, 21, 19, 16, 7, 26, 12, 18, 6, 11, 5, 10, 9]
def tab64 : List Int := [0, 1, 56, 2, 57, 49, 28, 3, 61, 58, 42, 50, 38, 29, 17, 4, 62, 47, 59, 36, 45, 43, 51, 22, 53, 39, 33, 30, 24, 18, 12, 5, 63, 55, 48, 27, 60, 41, 37, 16, 46, 35, 44, 21, 52, 32, 23, 11, 54, 26, 40, 15, 34, 20, 31, 10, 25, 14, 19, 9, 13, 8, 7, 6]

/-- A block's cells, laid anew. -/
def putTab (cs : Array Value) : Obj → Obj
  | .cells _ t frozen => .cells cs t frozen
  | o => o

end Go.Proofs.YtkipioojdlkbcaaGreatDoor
