/- NumRings, made ready: the row of three results, and what is made of them. -/
import Derived.Test.YtkipioojdlkbcaaDoorLawF
namespace Go.Proofs.YtkipioojdlkbcaaDoor
open Go.RowKit

/-- The row of three results, as far as it is filled. -/
def doV (r0 r1 r2 : Int) (k j : Nat) : Int := if j < k then (if j = 0 then r0 else if j = 1 then r1 else r2) else 0

def DoI (W : World) (B : Nat) (r0 r1 r2 : Int) (k : Nat) (w' : World) : Prop :=
  Below W.heap.size W w' ∧ W.heap.size ≤ B ∧ B < w'.heap.size ∧ ∀ j, j < 3 → w'.cell? ⟨B, 2 * j, none⟩ = some (.bool false) ∧ w'.cell? ⟨B, 2 * j + 1, none⟩ = some (.int .u64 (doV r0 r1 r2 k j)) ∧
    w'.frozen? ⟨B, 2 * j, none⟩ = false ∧ w'.frozen? ⟨B, 2 * j + 1, none⟩ = false

theorem DoI.below {W : World} {B : Nat} {r0 r1 r2 : Int} {k : Nat} {w w' : World} (h : DoI W B r0 r1 r2 k w) (hb : Below w.heap.size w w') : DoI W B r0 r1 r2 k w' := by
  obtain ⟨h1, h2, h3, h4⟩ := h
  have hs := hb.size
  refine ⟨stepB h1 hb, h2, by omega, fun j hj => ?_⟩
  obtain ⟨a, b, c, d⟩ := h4 j hj
  exact ⟨cell_later hb a, cell_later hb b, (hb.frozen (by simpa using h3)).trans c, (hb.frozen (by simpa using h3)).trans d⟩

theorem DoI.store {W : World} {B : Nat} {r0 r1 r2 : Int} {k : Nat} {w : World} (h : DoI W B r0 r1 r2 k w) (hk : k < 3) :
    DoI W B r0 r1 r2 (k + 1) ((w.setCell ⟨B, 2 * k, none⟩ (.bool false)).setCell ⟨B, 2 * k + 1, none⟩ (.int .u64 (doV r0 r1 r2 (k + 1) k))) := by
  obtain ⟨h1, h2, h3, h4⟩ := h
  refine ⟨(h1.setCell (by simpa using h2) _).setCell (by simpa using h2) _, h2, by simpa using h3, fun j hj => ?_⟩
  obtain ⟨a, b, c, d⟩ := h4 j hj
  obtain ⟨a', b', c', d'⟩ := h4 k hk
  refine ⟨?_, ?_, by simpa using c, by simpa using d⟩
  · rw [World.cell?_setCell_other (h := by intro q; injection q; omega)]
    by_cases e : j = k
    · subst e; exact World.cell?_setCell_same _ _ _ a
    · rw [World.cell?_setCell_other (h := by intro q; injection q; omega)]; exact a
  · by_cases e : j = k
    · subst e
      exact World.cell?_setCell_same _ _ _ (u := .int .u64 (doV r0 r1 r2 j j)) (by rw [World.cell?_setCell_other (h := by intro q; injection q; omega)]; exact b)
    · rw [World.cell?_setCell_other (h := by intro q; injection q; omega), World.cell?_setCell_other (h := by intro q; injection q; omega), b]
      have : doV r0 r1 r2 k j = doV r0 r1 r2 (k + 1) j := by
        unfold doV
        have q : (j < k) = (j < k + 1) := propext ⟨fun _ => by omega, fun _ => by omega⟩
        simp only [q]
      rw [this]

theorem Umul (x y : Int) : U (wrap64 (wrap64 x * y)) = U (wrap64 (x * y)) := by
  rw [U_wrap64, U_wrap64, U_eq, U_eq, Int.mul_emod, Int.mul_emod x]
  congr 2
  unfold wrap64; omega
theorem Uadd (x y : Int) : U (wrap64 (wrap64 x + y)) = U (wrap64 (x + y)) := by
  rw [U_wrap64, U_wrap64, U_eq, U_eq]; unfold wrap64; omega
theorem Uadd2 (x y : Int) : U (wrap64 (wrap64 x + wrap64 y)) = U (wrap64 (x + y)) := by
  rw [U_wrap64, U_wrap64, U_eq, U_eq]; unfold wrap64; omega

/-- The three results, and what is made of them. -/
theorem c_back (a b : Int) (w : World) (hb : InR b) : Calls Tryd.prog 12 #[.int .i64 0, .agg #[.bool false, .int .u64 (U (wrap64 (a - b)))], .agg #[.bool false, .int .u64 (U b)]] w fun e w' =>
      e = .returned (.tuple #[.agg #[.bool false, .int .u64 (U a)], .int .i64 0]) ∧ Below w.heap.size w w' := by
  have h := calc_add' (wrap64 (a - b)) b w (InR_wrap64 _) hb
  rw [Uadd, show a - b + b = a by omega, U_wrap64 a] at h
  exact h
theorem c_left (a b c : Int) (w : World) (hc : InR c) : Calls Tryd.prog 12 #[.int .i64 2, .agg #[.bool false, .int .u64 (U (wrap64 (a + b)))], .agg #[.bool false, .int .u64 (U c)]] w fun e w' =>
      e = .returned (.tuple #[.agg #[.bool false, .int .u64 (U ((a + b) * c))], .int .i64 0]) ∧ Below w.heap.size w w' := by
  have h := calc_mul' (wrap64 (a + b)) c w (InR_wrap64 _) hc
  rw [Umul, U_wrap64 ((a + b) * c)] at h
  exact h
theorem c_right (a b c : Int) (w : World) : Calls Tryd.prog 12 #[.int .i64 0, .agg #[.bool false, .int .u64 (U (wrap64 (a * c)))], .agg #[.bool false, .int .u64 (U (wrap64 (b * c)))]] w fun e w' =>
      e = .returned (.tuple #[.agg #[.bool false, .int .u64 (U ((a + b) * c))], .int .i64 0]) ∧ Below w.heap.size w w' := by
  have h := calc_add' (wrap64 (a * c)) (wrap64 (b * c)) w (InR_wrap64 _) (InR_wrap64 _)
  rw [Uadd2, ← Int.add_mul, U_wrap64 ((a + b) * c)] at h
  exact h
theorem c_turned (a b : Int) (w : World) (ha : InR a) (hb : InR b) : Calls Tryd.prog 12 #[.int .i64 2, .agg #[.bool false, .int .u64 (U b)], .agg #[.bool false, .int .u64 (U a)]] w fun e w' =>
      e = .returned (.tuple #[.agg #[.bool false, .int .u64 (U (wrap64 (a * b)))], .int .i64 0]) ∧ Below w.heap.size w w' := by
  have h := calc_mul' b a w hb ha
  rw [Int.mul_comm b a] at h
  exact h

theorem quot_InR (a b : Int) (ha : InR a) (h0 : b ≠ 0) (hd : ¬ (a = -9223372036854775808 ∧ b = -1)) : InR (a.tdiv b) := by
  obtain ⟨h1, h2⟩ := ha
  have h : (a.tdiv b).natAbs = a.natAbs / b.natAbs := Int.natAbs_tdiv a b
  have hle : a.natAbs / b.natAbs ≤ a.natAbs := Nat.div_le_self _ _
  by_cases e : b = -1
  · subst e
    have : a.tdiv (-1) = -a := by simp [Int.tdiv_neg, Int.tdiv_one]
    rw [this]; exact ⟨by omega, by omega⟩
  · by_cases e1 : b = 1
    · subst e1; rw [Int.tdiv_one]; exact ⟨h1, h2⟩
    · have : 2 ≤ b.natAbs := by omega
      have : a.natAbs / b.natAbs ≤ a.natAbs / 2 := Nat.div_le_div_left this (by decide)
      exact ⟨by omega, by omega⟩

theorem c_y (a b : Int) (w : World) (hq : InR (a.tdiv b)) (hb : InR b) : Calls Tryd.prog 12 #[.int .i64 2, .agg #[.bool false, .int .u64 (U (wrap64 (a.tdiv b)))], .agg #[.bool false, .int .u64 (U b)]] w fun e w' =>
      e = .returned (.tuple #[.agg #[.bool false, .int .u64 (U (wrap64 (a.tdiv b * b)))], .int .i64 0]) ∧ Below w.heap.size w w' := by
  have h := calc_mul' (a.tdiv b) b w hq hb
  rw [U_wrap64 (a.tdiv b)]
  exact h
theorem c_z (a b : Int) (w : World) (hr : InR (a.tmod b)) : Calls Tryd.prog 12 #[.int .i64 0, .agg #[.bool false, .int .u64 (U (wrap64 (a.tdiv b * b)))], .agg #[.bool false, .int .u64 (U (a.tmod b))]] w fun e w' =>
      e = .returned (.tuple #[.agg #[.bool false, .int .u64 (U a)], .int .i64 0]) ∧ Below w.heap.size w w' := by
  have h := calc_add' (wrap64 (a.tdiv b * b)) (a.tmod b) w (InR_wrap64 _) hr
  rw [Uadd, show a.tdiv b * b + a.tmod b = a from by rw [Int.mul_comm]; exact Int.mul_tdiv_add_tmod a b, U_wrap64 a] at h
  exact h

end Go.Proofs.YtkipioojdlkbcaaDoor
