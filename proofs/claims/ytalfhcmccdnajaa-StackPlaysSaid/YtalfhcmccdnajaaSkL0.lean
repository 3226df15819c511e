/- Pop. -/
import Derived.Test.YtalfhcmccdnajaaSkK
import Derived.Test.YtalfhcmccdnajaaSkI
namespace Go.Proofs.Ytalfhcmccdnajaa
open Go.RowKit Go.Sort

theorem three_boxes (w : World) (p : Nat) :
    ∃ W, W = ((w.alloc (.cells #[.pointer (some ⟨p, 0, none⟩)] 25)).alloc (.cells #[.int .i64 0, .int .i64 0, .slice none 0 0] TF)).alloc (.cells #[.bool false] 4) ∧ Below w.heap.size w W ∧ W.heap.size = w.heap.size + 3 ∧ W.cell? ⟨w.heap.size, 0, none⟩ = some (.pointer (some ⟨p, 0, none⟩)) ∧ W.heap[w.heap.size + 1]? = some (.cells #[.int .i64 0, .int .i64 0, .slice none 0 0] TF (0, 0)) ∧ W.heap[w.heap.size + 2]? = some (.cells #[.bool false] 4 (0, 0)) := by
  obtain ⟨W, hW, hb, hz, hB, hR⟩ := two_boxes w p
  rw [← hW]
  refine ⟨_, rfl, hb.alloc (by omega) _, by rw [World.size_alloc, hz], ?_, ?_, ?_⟩
  · exact (World.cell?_of_block (w := W) (a := ⟨w.heap.size, 0, none⟩) (Below.heap_alloc _ _ _ (by show w.heap.size < _; omega))).trans hB
  · exact (Below.heap_alloc _ _ _ (by omega)).trans hR
  · rw [← hz]; exact heap_alloc_new _ _

/-- What stands in the boxes behind the call: of Pop's answer, of 'still to be scanned'. -/
def Boxes (n : Nat) (fresh : Bool) (W : World) : Prop :=
  W.heap[n + 1]? = some (.cells #[.int .i64 0, .int .i64 0, .slice none 0 0] TF (0, 0)) ∧ W.heap[n + 2]? = some (.cells #[.bool fresh] 4 (0, 0))
theorem set3_far {W : World} {b k : Nat} (x y z : Value) (h : k ≠ b) : (((W.setCell ⟨b, 0, none⟩ x).setCell ⟨b, 1, none⟩ y).setCell ⟨b, 2, none⟩ z).heap[k]? = W.heap[k]? := by
  rw [Below.heap_setCell _ _ _ _ h, Below.heap_setCell _ _ _ _ h, Below.heap_setCell _ _ _ _ h]


end Go.Proofs.Ytalfhcmccdnajaa
