/- The document's example. -/
import Derived.Test.YtkeeglpbhjnmdaaDoorLxI
namespace Go.Proofs.YtkeeglpbhjnmdaaDoor
open Go.RowKit Go.Lib

def exB : ByteArray := ⟨#[102, 32, 120, 61, 120, 43, 46, 35, 45, 49, 45, 45, 121]⟩
def exT : List (Tk × Int) := [(⟨1, [102], false, 0⟩, 1), (⟨1, [120], false, 0⟩, 1), (⟨6, [61], false, 0⟩, 1), (⟨1, [120], false, 0⟩, 1), (⟨4, [43, 46], false, 0⟩, 1), (⟨3, [35, 45, 49], false, 18446744073709551615⟩, 1)]
set_option maxRecDepth 100000 in
theorem ex_lex : lexL exB.data.toList = .good exT := by kernel_rfl

end Go.Proofs.YtkeeglpbhjnmdaaDoor
