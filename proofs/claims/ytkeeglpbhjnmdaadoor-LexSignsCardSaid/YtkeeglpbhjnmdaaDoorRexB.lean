/- The document's Same: the same tokens are the same. -/
import Derived.Test.YtkeeglpbhjnmdaaDoorRexA
import Derived.Test.YtkeeglpbhjnmdaaDoorLinV
namespace Go.Proofs.YtkeeglpbhjnmdaaDoor
open Go.RowKit Go.Lib

set_option maxHeartbeats 16000000 in
set_option maxRecDepth 100000 in
theorem same_any (T : List (Tk × Int)) (a1 a2 : Option Addr) (c1 c2 b1 b2 : Nat) (w : World) (h1 : w.ownsRow b1 35 5 (.slice a1 T.length c1) T.length (flatT T)) (h2 : w.ownsRow b2 35 5 (.slice a2 T.length c2) T.length (flatT T)) :
    Calls Tryd.prog 12 #[.slice a1 T.length c1, .slice a2 T.length c2] w fun e w' => e = .returned (.bool true) ∧ Below w.heap.size w w' := by
  have HO := Lib.hid (And.intro h1 h2)
  have hmx := own_max h1
  unfold maxLen at hmx
  clear h1 h2
  go_enter Tryd.func12, Tryd.ntmps12
  have u1 : ((T.length : Int) != (T.length : Int)) = false := by simp
  go_wp2_with fail
  clear u1
  go_loopw [5] (fun s5 wr => ∃ j : Nat, j ≤ T.length ∧ s5 = .int .i64 j ∧ Below w.heap.size w wr) (fun s5 _ => T.length - (RowKit.intOf s5).toNat)
  case atStart => exact ⟨0, Nat.zero_le _, rfl, Below.refl _ _⟩
  case round =>
    obtain ⟨j, hj, rfl, hbr⟩ := hrel
    have HBR := Lib.hid hbr
    clear hbr
    by_cases gj : j < T.length
    · have gj' : (j : Int) < (T.length : Int) := by omega
      obtain ⟨g1, ea1, ht1⟩ := own_tok HO.out.1 gj
      obtain ⟨g2, ea2, ht2⟩ := own_tok HO.out.2 gj
      subst ea1
      subst ea2
      replace ht1 := ht1.later HBR.out
      replace ht2 := ht2.later HBR.out
      generalize T[j] = tk at *
      obtain ⟨⟨kd, tx, ff, xx⟩, ln⟩ := tk
      obtain ⟨p0, p1, p2, p3, p4⟩ := ht1
      obtain ⟨q0, q1, q2, q3, q4⟩ := ht2
      simp only at p0 p1 p2 p3 p4 q0 q1 q2 q3 q4
      generalize (⟨tx.toArray⟩ : ByteArray) = bt at *
      have he := fun W => tok_neq kd bt ff xx ln W
      have ej : IntKind.i64.wrap ((j : Int) + 1) = (j : Int) + 1 := by rw [IntKind.wrap_i64]; omega
      have b0 : (0 : Int) ≤ (j : Int) := by omega
      go_wp2_with fail
      go_quiet (fail)
      have HE := Lib.hid (sdrewN HBR.out nq)
      go_wp2_with fail
      exact ⟨⟨j + 1, by omega, by go_num, HE.out⟩, by simp [RowKit.intOf]; omega⟩
    · obtain rfl : j = T.length := by omega
      go_wp2_with fail
      go_ret
      exact ⟨rfl, HBR.out⟩

end Go.Proofs.YtkeeglpbhjnmdaaDoor
