/- Contracts of the document's own answers, continued: quotients, ints, whole parts. -/
import Derived.Test.YtkipioojdlkbcaaDoorRefA
import Derived.Test.YtkipioojdlkbcaaDoorLawF
import Derived.Test.YtkipioojdlkbcaaDoorFloatC
namespace Go.Proofs.YtkipioojdlkbcaaDoor
open Go.RowKit

theorem tdiv_parts (a b : Int) : a.tdiv b = (if decide (a < 0) = decide (b < 0) then ((a.natAbs / b.natAbs : Nat) : Int) else -((a.natAbs / b.natAbs : Nat) : Int)) := by
  rcases a with m | m <;> rcases b with n | n
  · rw [if_pos (by simp; omega)]; rfl
  · rw [if_neg (by simp)]; rfl
  · rw [if_neg (by simp)]; rfl
  · rw [if_pos (by simp)]; rfl

theorem tmod_parts (a b : Int) : a.tmod b = (if a < 0 then -((a.natAbs % b.natAbs : Nat) : Int) else ((a.natAbs % b.natAbs : Nat) : Int)) := by
  rcases a with m | m <;> rcases b with n | n
  · rw [if_neg (by simp)]; rfl
  · rw [if_neg (by simp)]; rfl
  · rw [if_pos (by simp)]; rfl
  · rw [if_pos (by simp)]; rfl

theorem ret_uu {k l : IntKind} {a b c d : Int} (h : a = b) (h' : c = d) : Ending.returned (.tuple #[.int k a, .int l c]) = .returned (.tuple #[.int k b, .int l d]) := by rw [h, h']

theorem quotient_parts (a b : Int) (ha : InR a) (h0 : b ≠ 0) (hb : InR b) : ∃ q r : Int, (a.natAbs : Int) / (b.natAbs : Int) = q ∧ (a.natAbs : Int).tmod (b.natAbs : Int) = r ∧ 0 ≤ q ∧ q ≤ 9223372036854775808 ∧ 0 ≤ r ∧ r ≤ 9223372036854775808 ∧
    U (a.tdiv b) = (if decide (a < 0) = decide (b < 0) then q else -q) % 18446744073709551616 ∧ U (a.tmod b) = (if a < 0 then -r else r) % 18446744073709551616 := by
  obtain ⟨ha1, ha2⟩ := ha
  obtain ⟨hb1, hb2⟩ := hb
  have qle : a.natAbs / b.natAbs ≤ a.natAbs := Nat.div_le_self _ _
  have rlt : a.natAbs % b.natAbs < b.natAbs := Nat.mod_lt _ (by omega)
  have eQ : (a.natAbs : Int) / (b.natAbs : Int) = ((a.natAbs / b.natAbs : Nat) : Int) := (Int.natCast_ediv _ _).symm
  have eR : (a.natAbs : Int).tmod (b.natAbs : Int) = ((a.natAbs % b.natAbs : Nat) : Int) := by rw [Int.natCast_emod, Int.tmod_eq_emod_of_nonneg (by omega)]
  have na : a.natAbs ≤ 9223372036854775808 := by omega
  have nb : b.natAbs ≤ 9223372036854775808 := by omega
  refine ⟨_, _, eQ, eR, Int.natCast_nonneg _, Int.ofNat_le.2 (Nat.le_trans qle na), Int.natCast_nonneg _, Int.ofNat_le.2 (Nat.le_trans (Nat.le_of_lt rlt) nb), ?_, ?_⟩
  · rw [U_eq, tdiv_parts]
  · rw [U_eq, tmod_parts]

set_option maxRecDepth 100000 in
set_option maxHeartbeats 400000 in
theorem r_quotient (a b : Int) (w : World) (ha : InR a) (hb : InR b) (h0 : b ≠ 0) :
    Calls Tryd.prog 54 #[.int .i64 a, .int .i64 b] w fun e w' => e = .returned (.tuple #[.int .u64 (U (a.tdiv b)), .int .u64 (U (a.tmod b))]) ∧ Below w.heap.size w w' := by
  obtain ⟨q, r, eQ, eR, q1, q2, r1, r2, e1, e2⟩ := quotient_parts a b ha h0 hb
  obtain ⟨ha1, ha2⟩ := ha
  obtain ⟨hb1, hb2⟩ := hb
  have hB := Below.refl w.heap.size w
  have nb : (b.natAbs : Int) ≠ 0 := by omega
  have hq : IntKind.u64.wrap q = q := by rw [IntKind.wrap_u64]; omega
  generalize U (a.tdiv b) = Q at *
  generalize U (a.tmod b) = R at *
  by_cases hA : a < 0 <;> by_cases hC : b < 0
  all_goals
    have d1 : decide (a < 0) = decide (a < 0) := rfl
    have d2 : decide (b < 0) = decide (b < 0) := rfl
    conv at d1 => rhs; simp [hA]
    conv at d2 => rhs; simp [hC]
    simp [hA, hC] at e1 e2
    have E1 := Lib.hid e1
    have E2 := Lib.hid e2
    clear e1 e2
    go_enter Tryd.func54, Tryd.ntmps54
    go_wp2_with fail
    go_region_held3 (fun w' => Below w.heap.size w w')
      (first
        | exact stepB (by assumption) hb
        | exact hB.drew
        | exact Below.drew (by assumption)
        | exact hB)
      (first
        | (go_at_call 73; refine (r_size _ _ (by first | exact ⟨ha1, ha2⟩ | exact ⟨hb1, hb2⟩)).mono ?_; rintro e w' ⟨rfl, hb⟩))
    clear hB hb
    clear eQ eR hq nb
    go_wp2_with fail
    all_goals
      first
        | (exfalso; simp only [decide_eq_true_eq, decide_eq_false_iff_not] at *; omega)
        | (exfalso; clear E1 E2; simp_all; done)
        | (refine bodyPost_ret (v := .tuple #[_, _]) (by simp [results, Tryd.results54, go_sem]; exact ⟨rfl, rfl⟩) rfl ?_
           exact ⟨ret_uu (by have := E1.out; first | omega | (rw [IntKind.wrap_u64]; omega)) (by have := E2.out; first | omega | (rw [IntKind.wrap_u64]; omega)), by assumption⟩)

end Go.Proofs.YtkipioojdlkbcaaDoor
