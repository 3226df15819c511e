/- Both answers are one: of any operation, of any question. -/
import Derived.Test.YtkmickgngijdlaaDoorRefF
namespace Go.Proofs.YtkmickgngijdlaaDoor
open Go.RowKit

/-- Of 64 bits. -/
def In64 (x : Int) : Prop := 0 ≤ x ∧ x ≤ 18446744073709551615

theorem U_of {x : Int} (h : In64 x) : U (wrap64 x) = x := by
  obtain ⟨h1, h2⟩ := h
  rw [U_wrap64, U_eq]; omega

theorem nat_of {x : Int} (h : In64 x) : ∃ n : Nat, x = n ∧ n < 18446744073709551616 := by
  obtain ⟨h1, h2⟩ := h
  exact ⟨x.toNat, by omega, by omega⟩

def SameC (op : Int) (f g : Bool) (x y : Int) : Prop :=
  ∃ (vf : Bool) (vb E : Int), (∀ w, Calls Tryd.prog 12 #[.int .i64 op, .agg #[.bool f, .int .u64 x], .agg #[.bool g, .int .u64 y]] w fun e w' => e = .returned (.tuple #[.agg #[.bool vf, .int .u64 vb], .int .i64 E]) ∧ Below w.heap.size w w') ∧
    (∀ w, Calls Tryd.prog 13 #[.int .i64 op, .agg #[.bool f, .int .u64 x], .agg #[.bool g, .int .u64 y]] w fun e w' => e = .returned (.tuple #[.agg #[.bool vf, .int .u64 vb], .int .i64 E]) ∧ Below w.heap.size w w')

def SameT (op : Int) (f g : Bool) (x y : Int) : Prop :=
  ∃ (v : Bool) (E : Int), (∀ w, Calls Tryd.prog 14 #[.int .i64 op, .agg #[.bool f, .int .u64 x], .agg #[.bool g, .int .u64 y]] w fun e w' => e = .returned (.tuple #[.bool v, .int .i64 E]) ∧ Below w.heap.size w w') ∧
    (∀ w, Calls Tryd.prog 15 #[.int .i64 op, .agg #[.bool f, .int .u64 x], .agg #[.bool g, .int .u64 y]] w fun e w' => e = .returned (.tuple #[.bool v, .int .i64 E]) ∧ Below w.heap.size w w')

theorem ints_c (op : Int) (h : op = 0 ∨ op = 1 ∨ op = 2 ∨ op = 3 ∨ op = 4) (x y : Int) (hx : In64 x) (hy : In64 y) : SameC op false false x y := by
  rw [← U_of hx, ← U_of hy]
  have ha := InR_wrap64 x
  have hb := InR_wrap64 y
  generalize wrap64 x = a at *
  generalize wrap64 y = b at *
  rcases h with rfl | rfl | rfl | rfl | rfl
  · exact ⟨_, _, _, fun w => calc_add' a b w ha hb, fun w => r_calc_0 a b w⟩
  · exact ⟨_, _, _, fun w => calc_sub' a b w ha hb, fun w => r_calc_1 a b w⟩
  · exact ⟨_, _, _, fun w => calc_mul' a b w ha hb, fun w => r_calc_2 a b w⟩
  · by_cases hd : dv a b = 0
    · have h0 : b ≠ 0 := by intro e; subst e; revert hd; unfold dv; rw [if_pos rfl]; decide
      exact ⟨_, _, _, fun w => calc_div_ok a b w ha hb hd h0, fun w => r_calc_3_ok a b ha hb hd h0 w⟩
    · exact ⟨_, _, _, fun w => calc_div_bad a b w ha hb hd, fun w => r_calc_3_bad a b ha hb hd w⟩
  · by_cases hd : dv a b = 0
    · have h0 : b ≠ 0 := by intro e; subst e; revert hd; unfold dv; rw [if_pos rfl]; decide
      exact ⟨_, _, _, fun w => calc_rem_ok a b w ha hb hd h0, fun w => r_calc_4_ok a b ha hb hd h0 w⟩
    · exact ⟨_, _, _, fun w => calc_rem_bad a b w ha hb hd, fun w => r_calc_4_bad a b ha hb hd w⟩

theorem floats_c (op : Int) (h : op = 7 ∨ op = 8 ∨ op = 9 ∨ op = 10) (x y : Int) (hx : In64 x) (hy : In64 y) : SameC op true true x y := by
  obtain ⟨n, rfl, -⟩ := nat_of hx
  obtain ⟨m, rfl, -⟩ := nat_of hy
  rcases h with rfl | rfl | rfl | rfl
  · exact ⟨_, _, _, fun w => calc_fadd n m w, fun w => r_calc_7 n m w⟩
  · exact ⟨_, _, _, fun w => calc_fsub n m w, fun w => r_calc_8 n m w⟩
  · exact ⟨_, _, _, fun w => calc_fmul n m w, fun w => r_calc_9 n m w⟩
  · exact ⟨_, _, _, fun w => calc_fdiv n m w, fun w => r_calc_10 n m w⟩

theorem both_kind (op : Int) (h : op = 0 ∨ op = 1 ∨ op = 2 ∨ op = 3 ∨ op = 4 ∨ op = 7 ∨ op = 8 ∨ op = 9 ∨ op = 10) (f g : Bool) (x y : Int) (hk : kindB f g op = false) : SameC op f g x y :=
  ⟨_, _, _, fun w => kind_calc op f g x y w h hk, fun w => r_calc_kind op f g x y h hk w⟩

theorem both_calc (op : Int) (f g : Bool) (x y : Int) (hx : In64 x) (hy : In64 y) : SameC op f g x y := by
  by_cases hl : op < 0
  · exact ⟨_, _, _, fun w => calc_low op f g x y w hl, fun w => r_calc_range op f g x y (.inl hl) w⟩
  by_cases hh : 14 < op
  · exact ⟨_, _, _, fun w => calc_high op f g x y w (by omega) (by omega), fun w => r_calc_range op f g x y (.inr (.inl hh)) w⟩
  have hop : op = 0 ∨ op = 1 ∨ op = 2 ∨ op = 3 ∨ op = 4 ∨ op = 5 ∨ op = 6 ∨ op = 7 ∨ op = 8 ∨ op = 9 ∨ op = 10 ∨ op = 11 ∨ op = 12 ∨ op = 13 ∨ op = 14 := by omega
  clear hl hh
  rcases hop with rfl | rfl | rfl | rfl | rfl | rfl | rfl | rfl | rfl | rfl | rfl | rfl | rfl | rfl | rfl
  · by_cases hk : kindB f g 0 = false
    · exact both_kind 0 (by decide) f g x y hk
    · obtain ⟨rfl, rfl⟩ : f = false ∧ g = false := by revert hk; cases f <;> cases g <;> decide
      exact ints_c 0 (by decide) x y hx hy
  · by_cases hk : kindB f g 1 = false
    · exact both_kind 1 (by decide) f g x y hk
    · obtain ⟨rfl, rfl⟩ : f = false ∧ g = false := by revert hk; cases f <;> cases g <;> decide
      exact ints_c 1 (by decide) x y hx hy
  · by_cases hk : kindB f g 2 = false
    · exact both_kind 2 (by decide) f g x y hk
    · obtain ⟨rfl, rfl⟩ : f = false ∧ g = false := by revert hk; cases f <;> cases g <;> decide
      exact ints_c 2 (by decide) x y hx hy
  · by_cases hk : kindB f g 3 = false
    · exact both_kind 3 (by decide) f g x y hk
    · obtain ⟨rfl, rfl⟩ : f = false ∧ g = false := by revert hk; cases f <;> cases g <;> decide
      exact ints_c 3 (by decide) x y hx hy
  · by_cases hk : kindB f g 4 = false
    · exact both_kind 4 (by decide) f g x y hk
    · obtain ⟨rfl, rfl⟩ : f = false ∧ g = false := by revert hk; cases f <;> cases g <;> decide
      exact ints_c 4 (by decide) x y hx hy
  · exact ⟨_, _, _, fun w => calc_gap 5 f g x y w (by decide) (by decide) rfl, fun w => r_calc_range 5 f g x y (by decide) w⟩
  · exact ⟨_, _, _, fun w => calc_gap 6 f g x y w (by decide) (by decide) rfl, fun w => r_calc_range 6 f g x y (by decide) w⟩
  · by_cases hk : kindB f g 7 = false
    · exact both_kind 7 (by decide) f g x y hk
    · obtain ⟨rfl, rfl⟩ : f = true ∧ g = true := by revert hk; cases f <;> cases g <;> decide
      exact floats_c 7 (by decide) x y hx hy
  · by_cases hk : kindB f g 8 = false
    · exact both_kind 8 (by decide) f g x y hk
    · obtain ⟨rfl, rfl⟩ : f = true ∧ g = true := by revert hk; cases f <;> cases g <;> decide
      exact floats_c 8 (by decide) x y hx hy
  · by_cases hk : kindB f g 9 = false
    · exact both_kind 9 (by decide) f g x y hk
    · obtain ⟨rfl, rfl⟩ : f = true ∧ g = true := by revert hk; cases f <;> cases g <;> decide
      exact floats_c 9 (by decide) x y hx hy
  · by_cases hk : kindB f g 10 = false
    · exact both_kind 10 (by decide) f g x y hk
    · obtain ⟨rfl, rfl⟩ : f = true ∧ g = true := by revert hk; cases f <;> cases g <;> decide
      exact floats_c 10 (by decide) x y hx hy
  · exact ⟨_, _, _, fun w => calc_gap 11 f g x y w (by decide) (by decide) rfl, fun w => r_calc_range 11 f g x y (by decide) w⟩
  · exact ⟨_, _, _, fun w => calc_gap 12 f g x y w (by decide) (by decide) rfl, fun w => r_calc_range 12 f g x y (by decide) w⟩
  · cases f
    · have e := U_of hx
      have hr := InR_wrap64 x
      rw [← e]
      exact ⟨_, _, _, fun w => calc_float (wrap64 x) g y w hr, fun w => r_calc_13 (wrap64 x) hr g y w⟩
    · exact ⟨_, _, _, fun w => calc_float_bad x y g w, fun w => r_calc_kind1 13 true g x y (by decide) w⟩
  · cases f
    · exact ⟨_, _, _, fun w => calc_trunc_bad x y g w, fun w => r_calc_kind1 14 false g x y (by decide) w⟩
    · obtain ⟨b, rfl, hb⟩ := nat_of hx
      cases hW : Fl.within b
      · exact ⟨_, _, _, fun w => calc_trunc_out b g y w hW, fun w => r_calc_14_out b hb g y hW w⟩
      · obtain ⟨s, m, p, -, -, -, -, hk⟩ := Fl.toInt_within b hb hW
        exact ⟨_, _, _, fun w => calc_trunc_ok b g y _ w hW hk, fun w => r_calc_14_ok b hb g y _ hW hk w⟩

theorem both_test (op : Int) (f g : Bool) (x y : Int) (hx : In64 x) (hy : In64 y) : SameT op f g x y := by
  by_cases hop : op = 5 ∨ op = 6 ∨ op = 11 ∨ op = 12
  · by_cases hk : kindB f g op = false
    · exact ⟨_, _, fun w => kind_test op f g x y w hop hk, fun w => r_test_kind op f g x y hop hk w⟩
    · rcases hop with rfl | rfl | rfl | rfl
      · obtain ⟨rfl, rfl⟩ : f = false ∧ g = false := by revert hk; cases f <;> cases g <;> decide
        refine ⟨x == y, _, fun w => ?_, fun w => r_test_5 x y w⟩
        have h := test_eq (wrap64 x) (wrap64 y) w (InR_wrap64 x) (InR_wrap64 y)
        rw [U_of hx, U_of hy, show (wrap64 x == wrap64 y) = (x == y) by
          rw [Bool.eq_iff_iff, beq_iff_eq, beq_iff_eq]; exact ⟨fun e => by rw [← U_of hx, ← U_of hy, e], fun e => by rw [e]⟩] at h
        exact h
      · obtain ⟨rfl, rfl⟩ : f = false ∧ g = false := by revert hk; cases f <;> cases g <;> decide
        refine ⟨_, _, fun w => ?_, fun w => r_test_6 x y hx hy w⟩
        have h := test_less (wrap64 x) (wrap64 y) w (InR_wrap64 x) (InR_wrap64 y)
        rw [U_of hx, U_of hy] at h
        exact h
      · obtain ⟨rfl, rfl⟩ : f = true ∧ g = true := by revert hk; cases f <;> cases g <;> decide
        obtain ⟨n, rfl, hn⟩ := nat_of hx
        obtain ⟨m, rfl, hm⟩ := nat_of hy
        exact ⟨_, _, fun w => test_feq n m w, fun w => r_test_11 n m hn hm w⟩
      · obtain ⟨rfl, rfl⟩ : f = true ∧ g = true := by revert hk; cases f <;> cases g <;> decide
        obtain ⟨n, rfl, hn⟩ := nat_of hx
        obtain ⟨m, rfl, hm⟩ := nat_of hy
        exact ⟨_, _, fun w => test_fless n m w, fun w => r_test_12 n m hn hm w⟩
  · have r := fun w => r_test_range op f g x y (by simp; omega) (by simp; omega) (by simp; omega) (by simp; omega) w
    by_cases hl : op < 0
    · exact ⟨_, _, fun w => test_low op f g x y w hl, r⟩
    by_cases hh : 12 < op
    · exact ⟨_, _, fun w => test_high op f g x y w (by omega) (by omega), r⟩
    have ho : op = 0 ∨ op = 1 ∨ op = 2 ∨ op = 3 ∨ op = 4 ∨ op = 7 ∨ op = 8 ∨ op = 9 ∨ op = 10 := by omega
    rcases ho with rfl | rfl | rfl | rfl | rfl | rfl | rfl | rfl | rfl
    all_goals exact ⟨_, _, fun w => test_gap _ f g x y w (by decide) (by decide) rfl, r⟩

end Go.Proofs.YtkmickgngijdlaaDoor
