/- Where the bytes stand; the ways that a token may be. -/
import Derived.Test.YtkeeglpbhjnmdaaDoorLxP
namespace Go.Proofs.YtkeeglpbhjnmdaaDoor
open Go.RowKit Go.Lib

theorem num_neq (w : World) : (binOp .neq 33 (.agg #[.bool false, .int .u64 0]) (.agg #[.bool false, .int .u64 0])).run Tryd.prog w = .ok (.bool false) w := by
  have he : (Op.equal 33 (.agg #[.bool false, .int .u64 0]) (.agg #[.bool false, .int .u64 0])).run Tryd.prog w = .ok true w := num_refl 9998 false 0 w
  generalize hq : Op.equal = E at he
  simp [binOp, hq, he]

/-- Where a byte stands among the letters, digits and the mark. -/
def Fc (c : UInt8) (p97 p122 p65 p90 p48 p57 q35 : Bool) : Prop :=
  decide ((97 : Int) ≤ (c.toNat : Int)) = p97 ∧ decide ((c.toNat : Int) ≤ (122 : Int)) = p122 ∧ decide ((65 : Int) ≤ (c.toNat : Int)) = p65 ∧ decide ((c.toNat : Int) ≤ (90 : Int)) = p90 ∧ decide ((48 : Int) ≤ (c.toNat : Int)) = p48 ∧ decide ((c.toNat : Int) ≤ (57 : Int)) = p57 ∧ ((c.toNat : Int) == 35) = q35
theorem fc_sm {c : UInt8} (h : 97 ≤ c.toNat ∧ c.toNat ≤ 122) : Fc c true true true false true false false := ⟨decide_eq_true (by omega), decide_eq_true (by omega), decide_eq_true (by omega), decide_eq_false (by omega), decide_eq_true (by omega), decide_eq_false (by omega), beq_eq_false_iff_ne.2 (by omega)⟩
theorem fc_cp {c : UInt8} (h : 65 ≤ c.toNat ∧ c.toNat ≤ 90) : Fc c false true true true true false false := ⟨decide_eq_false (by omega), decide_eq_true (by omega), decide_eq_true (by omega), decide_eq_true (by omega), decide_eq_true (by omega), decide_eq_false (by omega), beq_eq_false_iff_ne.2 (by omega)⟩
theorem fc_dg {c : UInt8} (h : 48 ≤ c.toNat ∧ c.toNat ≤ 57) : Fc c false true false true true true false := ⟨decide_eq_false (by omega), decide_eq_true (by omega), decide_eq_false (by omega), decide_eq_true (by omega), decide_eq_true (by omega), decide_eq_true (by omega), beq_eq_false_iff_ne.2 (by omega)⟩
theorem fc_ha {c : UInt8} (h : c.toNat = 35) : Fc c false true false true false true true := ⟨decide_eq_false (by omega), decide_eq_true (by omega), decide_eq_false (by omega), decide_eq_true (by omega), decide_eq_false (by omega), decide_eq_true (by omega), beq_iff_eq.2 (by omega)⟩
theorem fc_s1 {c : UInt8} (h : c.toNat < 48 ∧ c.toNat ≠ 35) : Fc c false true false true false true false := ⟨decide_eq_false (by omega), decide_eq_true (by omega), decide_eq_false (by omega), decide_eq_true (by omega), decide_eq_false (by omega), decide_eq_true (by omega), beq_eq_false_iff_ne.2 (by omega)⟩
theorem fc_s2 {c : UInt8} (h : 58 ≤ c.toNat ∧ c.toNat ≤ 64) : Fc c false true false true true false false := ⟨decide_eq_false (by omega), decide_eq_true (by omega), decide_eq_false (by omega), decide_eq_true (by omega), decide_eq_true (by omega), decide_eq_false (by omega), beq_eq_false_iff_ne.2 (by omega)⟩
theorem fc_s3 {c : UInt8} (h : 91 ≤ c.toNat ∧ c.toNat ≤ 96) : Fc c false true true false true false false := ⟨decide_eq_false (by omega), decide_eq_true (by omega), decide_eq_true (by omega), decide_eq_false (by omega), decide_eq_true (by omega), decide_eq_false (by omega), beq_eq_false_iff_ne.2 (by omega)⟩
theorem fc_s4 {c : UInt8} (h : 123 ≤ c.toNat) : Fc c true false true false true false false := ⟨decide_eq_true (by omega), decide_eq_false (by omega), decide_eq_true (by omega), decide_eq_false (by omega), decide_eq_true (by omega), decide_eq_false (by omega), beq_eq_false_iff_ne.2 (by omega)⟩
theorem ways {kd : Int} {tx : List UInt8} {ff : Bool} {xx : Int} {c : UInt8} (h : TkOk ⟨kd, tx, ff, xx⟩ c) : (kd = 1 ∧ Fc c true true true false true false false ∧ refK tx c = 1 ∧ ff = false ∧ xx = 0) ∨ (kd = 5 ∧ Fc c true true true false true false false ∧ refK tx c = 5 ∧ ff = false ∧ xx = 0) ∨ (kd = 7 ∧ Fc c true true true false true false false ∧ refK tx c = 7 ∧ ff = false ∧ xx = 0) ∨ (kd = 2 ∧ Fc c false true true true true false false ∧ ff = false ∧ xx = 0) ∨ (kd = 3 ∧ Fc c false true false true true true false) ∨ (kd = 3 ∧ Fc c false true false true false true true) ∨ (kd = 4 ∧ Fc c false true false true false true false ∧ ff = false ∧ xx = 0) ∨ (kd = 4 ∧ Fc c false true false true true false false ∧ ff = false ∧ xx = 0) ∨ (kd = 4 ∧ Fc c false true true false true false false ∧ ff = false ∧ xx = 0) ∨ (kd = 4 ∧ Fc c true false true false true false false ∧ ff = false ∧ xx = 0) ∨ (kd = 6 ∧ Fc c false true false true false true false ∧ ff = false ∧ xx = 0) ∨ (kd = 6 ∧ Fc c false true false true true false false ∧ ff = false ∧ xx = 0) ∨ (kd = 6 ∧ Fc c false true true false true false false ∧ ff = false ∧ xx = 0) ∨ (kd = 6 ∧ Fc c true false true false true false false ∧ ff = false ∧ xx = 0) := by
  rcases h with ⟨hk, hs, hw, hf, hx⟩ | ⟨hk, hs, hw, hf, hx⟩ | ⟨hk, hs, hf, hx⟩ | ⟨hk, hs⟩ | ⟨hk, n1, n2, n3, n4, hf, hx⟩
  · unfold Sm at hs
    exact Or.inl ⟨hk, fc_sm hs, by unfold refK; rw [show wordF tx = none from hw]; simp; omega, hf, hx⟩
  · unfold Sm at hs
    rcases hk with hk | hk
    · exact Or.inr (Or.inl ⟨hk, fc_sm hs, by unfold refK; rw [show wordF tx = some kd from hw]; exact hk, hf, hx⟩)
    · exact Or.inr (Or.inr (Or.inl ⟨hk, fc_sm hs, by unfold refK; rw [show wordF tx = some kd from hw]; exact hk, hf, hx⟩))
  · unfold Cp at hs
    exact Or.inr (Or.inr (Or.inr (Or.inl ⟨hk, fc_cp hs, hf, hx⟩)))
  · rcases hs with hs | hs
    · unfold Dg at hs
      exact Or.inr (Or.inr (Or.inr (Or.inr (Or.inl ⟨hk, fc_dg hs⟩))))
    · exact Or.inr (Or.inr (Or.inr (Or.inr (Or.inr (Or.inl ⟨hk, fc_ha hs⟩)))))
  · unfold Sm at n1
    unfold Cp at n2
    unfold Dg at n3
    have hr : (c.toNat < 48 ∧ c.toNat ≠ 35) ∨ (58 ≤ c.toNat ∧ c.toNat ≤ 64) ∨ (91 ≤ c.toNat ∧ c.toNat ≤ 96) ∨ 123 ≤ c.toNat := by omega
    rcases hk with hk | hk
    · rcases hr with hr | hr | hr | hr
      · exact Or.inr (Or.inr (Or.inr (Or.inr (Or.inr (Or.inr (Or.inl ⟨hk, fc_s1 hr, hf, hx⟩))))))
      · exact Or.inr (Or.inr (Or.inr (Or.inr (Or.inr (Or.inr (Or.inr (Or.inl ⟨hk, fc_s2 hr, hf, hx⟩)))))))
      · exact Or.inr (Or.inr (Or.inr (Or.inr (Or.inr (Or.inr (Or.inr (Or.inr (Or.inl ⟨hk, fc_s3 hr, hf, hx⟩))))))))
      · exact Or.inr (Or.inr (Or.inr (Or.inr (Or.inr (Or.inr (Or.inr (Or.inr (Or.inr (Or.inl ⟨hk, fc_s4 hr, hf, hx⟩)))))))))
    · rcases hr with hr | hr | hr | hr
      · exact Or.inr (Or.inr (Or.inr (Or.inr (Or.inr (Or.inr (Or.inr (Or.inr (Or.inr (Or.inr (Or.inl ⟨hk, fc_s1 hr, hf, hx⟩))))))))))
      · exact Or.inr (Or.inr (Or.inr (Or.inr (Or.inr (Or.inr (Or.inr (Or.inr (Or.inr (Or.inr (Or.inr (Or.inl ⟨hk, fc_s2 hr, hf, hx⟩)))))))))))
      · exact Or.inr (Or.inr (Or.inr (Or.inr (Or.inr (Or.inr (Or.inr (Or.inr (Or.inr (Or.inr (Or.inr (Or.inr (Or.inl ⟨hk, fc_s3 hr, hf, hx⟩))))))))))))
      · exact Or.inr (Or.inr (Or.inr (Or.inr (Or.inr (Or.inr (Or.inr (Or.inr (Or.inr (Or.inr (Or.inr (Or.inr (Or.inr (⟨hk, fc_s4 hr, hf, hx⟩)))))))))))))

end Go.Proofs.YtkeeglpbhjnmdaaDoor
