/- (XArC without the words told: this seat has no Words.) A new arena that is refused. -/
import Derived.Test.YtbjlpmjalidfkaaArB
import Derived.Deep.RegionHeld
namespace Go.Proofs.Ytbjlpmjalidfkaa
open Go.RowKit

/-- Words told: in new memory. -/
structure Told (w : World) (c n : Nat) (D : Nat → Int) : Prop where
  data : ∀ k, k < n → w.cell? ⟨c, k, none⟩ = some (.int .i64 (D k))
  fz : ∀ k, k < n → w.frozen? ⟨c, k, none⟩ = false
  lc : c < w.heap.size

theorem Told.later {w w' : World} {c n : Nat} {D : Nat → Int} (h : Told w c n D) (hb : Below w.heap.size w w') : Told w' c n D :=
  ⟨fun k hk => (hb.cell h.lc).trans (h.data k hk), fun k hk => (hb.frozen h.lc).trans (h.fz k hk), Nat.lt_of_lt_of_le h.lc hb.size⟩

theorem new_out (n : Int) (ho : ¬ (1 ≤ n ∧ n ≤ 65536)) (w : World) :
    Calls Try.prog 39 #[.int .i64 n] w fun e w' => e = .returned (.tuple #[.pointer none, .int .i64 1]) ∧ w' = w := by
  by_cases g1 : n < 1
  · go_enter Try.func39, Try.ntmps39
    go_wp2
    go_ret2
    exact ⟨rfl, rfl⟩
  · have g2 : n > 65536 := by omega
    clear ho
    go_enter Try.func39, Try.ntmps39
    go_wp2
    go_ret2
    exact ⟨rfl, rfl⟩

theorem stepB {w W W' : World} (h : Below w.heap.size w W) (hb : Below W.heap.size W W') : Below w.heap.size w W' := h.trans (hb.mono h.size)

end Go.Proofs.Ytbjlpmjalidfkaa
