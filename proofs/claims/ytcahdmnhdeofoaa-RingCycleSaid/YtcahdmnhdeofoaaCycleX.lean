/- RingCycle: its walk, whatever is asked. -/
import Derived.Test.YtcahdmnhdeofoaaCycleW
namespace Go.Proofs.Ytcahdmnhdeofoaa
open Go.RowKit Go.Shelf

set_option maxHeartbeats 4000000 in
set_option maxRecDepth 100000 in
theorem cycle_walk (a f m : Nat) (a0 : Option Addr) (len cap : Nat) (w : World) (hnums : Nums w a0 len) (hlen : len ≤ 9223372036854775807) (ha : a ≤ 255) (hf : f ≤ 255) (hm : m ≤ 255) :
    Calls Try.prog 5 #[.int .u8 a, .int .u8 f, .int .u8 m, .slice a0 len cap] w fun e w' => e = .returned (.bool true) ∧ Below w.heap.size w w' := by
  by_cases hl : len ≤ 60
  · exact cycle_in a f m a0 len cap w hnums ha hf hm hl
  · have g3 : decide (60 < (len : Int)) = true := decide_eq_true (by omega)
    clear hnums hl hlen
    go_enter Try.func5, Try.ntmps5
    go_wp2_with fail
    refine (awake_any _).mono ?_
    rintro e w1 ⟨rfl, hB⟩
    have s1 := hB.size
    have HB := Lib.hid hB
    clear hB
    go_wp2_with fail
    obtain ⟨n, hn⟩ : ∃ n : Nat, (a : Int) % 40 + 1 = n := ⟨((a : Int) % 40 + 1).toNat, by omega⟩
    have e1 : 3 * ((a : Int) % 40 + 1) + 1 = ((3 * n + 1 : Nat) : Int) := by omega
    have n1 : n ≤ 40 := by omega
    rw [e1]
    refine (made_in (3 * n + 1) w1 (by omega) (by omega)).mono ?_
    rintro e w2 ⟨s, q, rfl, hsn, hR, hQ, l1, l2, l3, l4, l5, l6, hb⟩
    have HB2 := Lib.hid (onB' HB.out hb)
    clear hR hQ hb HB
    go_wp2_with fail
    go_ret
    exact ⟨rfl, HB2.out⟩

end Go.Proofs.Ytcahdmnhdeofoaa
