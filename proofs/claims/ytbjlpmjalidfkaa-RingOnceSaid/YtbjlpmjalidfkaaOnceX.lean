/- RingOnce: its walk, whatever is asked. -/
import Derived.Test.YtbjlpmjalidfkaaOnceW
namespace Go.Proofs.Ytbjlpmjalidfkaa
open Go.RowKit Go.Shelf

set_option maxHeartbeats 4000000 in
set_option maxRecDepth 100000 in
theorem once_walk (n : Int) (a0 : Option Addr) (len cap : Nat) (w : World) (hacts : Acts w a0 len) (hlen : len ≤ 9223372036854775807) (_ : -9223372036854775808 ≤ n ∧ n ≤ 9223372036854775807) :
    Calls Try.prog 3 #[.int .i64 n, .slice a0 len cap] w fun e w' => e = .returned (.bool true) ∧ Below w.heap.size w w' := by
  by_cases hv : 1 ≤ n ∧ n ≤ 2000 ∧ len ≤ 60
  · obtain ⟨m, rfl⟩ : ∃ m : Nat, n = m := ⟨n.toNat, by omega⟩
    exact once_in m a0 len cap w hacts (by omega) (by omega) hv.2.2
  · have hg : (decide (n < 1) || decide (2000 < n) || decide (60 < (len : Int))) = true := by
      simp
      omega
    clear hv hacts
    go_enter Try.func3, Try.ntmps3
    go_wp2_with fail
    refine (awake_any _).mono ?_
    rintro e w1 ⟨rfl, hB⟩
    have HB := Lib.hid hB
    clear hB
    by_cases g1 : n < 1
    · have g1' : decide (n < 1) = true := decide_eq_true g1
      go_wp2_with fail
      go_ret
      exact ⟨rfl, HB.out⟩
    · have g1' : decide (n < 1) = false := decide_eq_false g1
      by_cases g2 : 2000 < n
      · have g2' : decide (2000 < n) = true := decide_eq_true g2
        go_wp2_with fail
        go_ret
        exact ⟨rfl, HB.out⟩
      · have g2' : decide (2000 < n) = false := decide_eq_false g2
        have g3' : decide (60 < (len : Int)) = true := by
          rw [g1', g2'] at hg
          simpa using hg
        go_wp2_with fail
        go_ret
        exact ⟨rfl, HB.out⟩

end Go.Proofs.Ytbjlpmjalidfkaa
