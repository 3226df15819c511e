/- Contracts of the document's own answers, continued: Test. -/
import Derived.Test.YtkmickgngijdlaaDoorRefE
namespace Go.Proofs.YtkmickgngijdlaaDoor
open Go.RowKit

set_option maxRecDepth 100000 in
set_option maxHeartbeats 800000 in
theorem r_test_range (op : Int) (f g : Bool) (x y : Int) (h : (op != 5) = true) (h1 : (op != 6) = true) (h2 : (op != 11) = true) (h3 : (op != 12) = true) (w : World) :
    Calls Tryd.prog 15 #[.int .i64 op, .agg #[.bool f, .int .u64 x], .agg #[.bool g, .int .u64 y]] w fun e w' => e = .returned (.tuple #[.bool (false), .int .i64 (1)]) ∧ Below w.heap.size w w' := by
  have hB := Below.refl w.heap.size w
  go_enter Tryd.func15, Tryd.ntmps15
  go_wp2_with fail
  exact bodyPost_ret (v := .tuple #[.bool (false), .int .i64 1]) (by simp [results, Tryd.results15, go_sem]) rfl ⟨rfl, (hB.alloc hB.size _).alloc (by simp) _⟩

set_option maxRecDepth 100000 in
set_option maxHeartbeats 800000 in
theorem r_test_kind (op : Int) (f g : Bool) (x y : Int) (h : op = 5 ∨ op = 6 ∨ op = 11 ∨ op = 12) (hk : kindB f g op = false) (w : World) :
    Calls Tryd.prog 15 #[.int .i64 op, .agg #[.bool f, .int .u64 x], .agg #[.bool g, .int .u64 y]] w fun e w' => e = .returned (.tuple #[.bool (false), .int .i64 (6)]) ∧ Below w.heap.size w w' := by
  have hB := Below.refl w.heap.size w
  rcases h with rfl | rfl | rfl | rfl
  all_goals
    cases f <;> cases g <;> first | (exfalso; revert hk; decide) | skip
  all_goals
    clear hk
    go_enter Tryd.func15, Tryd.ntmps15
    go_wp2_with fail
    exact bodyPost_ret (v := .tuple #[.bool (false), .int .i64 6]) (by simp [results, Tryd.results15, go_sem]) rfl ⟨rfl, (hB.alloc hB.size _).alloc (by simp) _⟩

theorem xor_top (x : Nat) (hx : x < 18446744073709551616) : x ^^^ 9223372036854775808 = if x < 9223372036854775808 then x + 9223372036854775808 else x - 9223372036854775808 := by
  have h1 : (x ^^^ 9223372036854775808) / 2 ^ 63 = x / 2 ^ 63 ^^^ 9223372036854775808 / 2 ^ 63 := Nat.xor_div_two_pow
  have h2 : (x ^^^ 9223372036854775808) % 2 ^ 63 = x % 2 ^ 63 ^^^ 9223372036854775808 % 2 ^ 63 := Nat.xor_mod_two_pow
  rw [show 9223372036854775808 % 2 ^ 63 = 0 by decide, Nat.xor_zero] at h2
  rw [show 9223372036854775808 / 2 ^ 63 = 1 by decide] at h1
  have hq : x / 2 ^ 63 = 0 ∨ x / 2 ^ 63 = 1 := by omega
  rcases hq with hq | hq
  · rw [hq, show (0 : Nat) ^^^ 1 = 1 by decide] at h1
    rw [if_pos (by omega)]; omega
  · rw [hq, show (1 : Nat) ^^^ 1 = 0 by decide] at h1
    rw [if_neg (by omega)]; omega

theorem less_top (x y : Int) (hx : 0 ≤ x ∧ x ≤ 18446744073709551615) (hy : 0 ≤ y ∧ y ≤ 18446744073709551615) :
    decide (bits .xor .u64 x 9223372036854775808 < bits .xor .u64 y 9223372036854775808) = decide (wrap64 x < wrap64 y) := by
  obtain ⟨n, rfl⟩ : ∃ n : Nat, x = n := ⟨x.toNat, by omega⟩
  obtain ⟨m, rfl⟩ : ∃ m : Nat, y = m := ⟨y.toNat, by omega⟩
  have e := bits_xor_u64_nat n 9223372036854775808 (by omega) (by decide)
  have e2 := bits_xor_u64_nat m 9223372036854775808 (by omega) (by decide)
  rw [show ((9223372036854775808 : Nat) : Int) = 9223372036854775808 from rfl] at e e2
  rw [e, e2, xor_top n (by omega), xor_top m (by omega), Bool.eq_iff_iff, decide_eq_true_iff, decide_eq_true_iff]
  unfold wrap64
  by_cases h1 : n < 9223372036854775808 <;> by_cases h2 : m < 9223372036854775808 <;> simp only [h1, h2, if_true, if_false] <;> omega

theorem r_nan_yes (n : Nat) (hn : n < 18446744073709551616) (h : 2047 * 2 ^ 52 < n % 2 ^ 63) (w : World) :
    Calls Tryd.prog 28 #[.int .u64 n] w fun e w' => e = .returned (.bool true) ∧ Below w.heap.size w w' := by
  have q := r_nan n hn w
  rw [decide_eq_true (show 9218868437227405312 < n % 9223372036854775808 from h)] at q
  exact q

theorem r_nan_no (n : Nat) (hn : n < 18446744073709551616) (h : ¬ 2047 * 2 ^ 52 < n % 2 ^ 63) (w : World) :
    Calls Tryd.prog 28 #[.int .u64 n] w fun e w' => e = .returned (.bool false) ∧ Below w.heap.size w w' := by
  have q := r_nan n hn w
  rw [decide_eq_false (show ¬ 9218868437227405312 < n % 9223372036854775808 from h)] at q
  exact q

theorem r_key (n : Nat) (hn : n < 18446744073709551616) (w : World) :
    Calls Tryd.prog 29 #[.int .u64 n] w fun e w' => e = .returned (.int .i64 (Fl.key n)) ∧ Below w.heap.size w w' := r_order n hn w

set_option maxRecDepth 100000 in
set_option maxHeartbeats 800000 in
theorem r_test_5 (x y : Int) (w : World) :
    Calls Tryd.prog 15 #[.int .i64 5, .agg #[.bool false, .int .u64 x], .agg #[.bool false, .int .u64 y]] w fun e w' => e = .returned (.tuple #[.bool (x == y), .int .i64 (0)]) ∧ Below w.heap.size w w' := by
  have hB := Below.refl w.heap.size w
  go_enter Tryd.func15, Tryd.ntmps15
  go_wp2_with fail
  exact bodyPost_ret (v := .tuple #[.bool (x == y), .int .i64 0]) (by simp [results, Tryd.results15, go_sem]) rfl ⟨rfl, (hB.alloc hB.size _).alloc (by simp) _⟩

set_option maxRecDepth 100000 in
set_option maxHeartbeats 800000 in
theorem r_test_6 (x y : Int) (hx : 0 ≤ x ∧ x ≤ 18446744073709551615) (hy : 0 ≤ y ∧ y ≤ 18446744073709551615) (w : World) :
    Calls Tryd.prog 15 #[.int .i64 6, .agg #[.bool false, .int .u64 x], .agg #[.bool false, .int .u64 y]] w fun e w' => e = .returned (.tuple #[.bool (decide (wrap64 x < wrap64 y)), .int .i64 (0)]) ∧ Below w.heap.size w w' := by
  have hB := Below.refl w.heap.size w
  rw [← less_top x y hx hy]
  clear hx hy
  go_enter Tryd.func15, Tryd.ntmps15
  go_wp2_with fail
  exact bodyPost_ret (v := .tuple #[.bool (decide (bits .xor .u64 x 9223372036854775808 < bits .xor .u64 y 9223372036854775808)), .int .i64 0]) (by simp [results, Tryd.results15, go_sem]) rfl ⟨rfl, (hB.alloc hB.size _).alloc (by simp) _⟩

set_option maxRecDepth 100000 in
set_option maxHeartbeats 800000 in
theorem r_test_11_left (x y : Nat) (hx : x < 18446744073709551616) (h : 2047 * 2 ^ 52 < x % 2 ^ 63) (w : World) :
    Calls Tryd.prog 15 #[.int .i64 11, .agg #[.bool true, .int .u64 x], .agg #[.bool true, .int .u64 y]] w fun e w' => e = .returned (.tuple #[.bool (false), .int .i64 (0)]) ∧ Below w.heap.size w w' := by
  have HN := Lib.hid (fun w => r_nan_yes x hx h w)
  clear h hx
  obtain ⟨W0, hW0, hS⟩ := boxes2 true true x y w
  have HW := Lib.hid hW0; clear hW0
  go_enter Tryd.func15, Tryd.ntmps15
  go_wp2_with fail
  rw [← HW.out]
  clear HW
  obtain ⟨-, s1, c1, c2, c3, c4⟩ := id hS
  refine (HN.out _).mono ?_
  rintro e w1 ⟨rfl, hb⟩
  replace hS := S2.below hS hb
  clear hb c1 c2 c3 c4
  obtain ⟨-, s2, c1, c2, c3, c4⟩ := id hS
  go_wp2_with fail
  exact bodyPost_ret (v := .tuple #[.bool (false), .int .i64 0]) (by simp [results, Tryd.results15, go_sem]) rfl ⟨rfl, S2.out (f := true) (g := true) (x := x) (y := y) (by assumption)⟩

set_option maxRecDepth 100000 in
set_option maxHeartbeats 800000 in
theorem r_test_11_right (x y : Nat) (hx : x < 18446744073709551616) (hy : y < 18446744073709551616) (h : ¬ 2047 * 2 ^ 52 < x % 2 ^ 63) (h2 : 2047 * 2 ^ 52 < y % 2 ^ 63) (w : World) :
    Calls Tryd.prog 15 #[.int .i64 11, .agg #[.bool true, .int .u64 x], .agg #[.bool true, .int .u64 y]] w fun e w' => e = .returned (.tuple #[.bool (false), .int .i64 (0)]) ∧ Below w.heap.size w w' := by
  have HN := Lib.hid (fun w => r_nan_no x hx h w)
  have HM := Lib.hid (fun w => r_nan_yes y hy h2 w)
  clear h h2 hx hy
  obtain ⟨W0, hW0, hS⟩ := boxes2 true true x y w
  have HW := Lib.hid hW0; clear hW0
  go_enter Tryd.func15, Tryd.ntmps15
  go_wp2_with fail
  rw [← HW.out]
  clear HW
  obtain ⟨-, s1, c1, c2, c3, c4⟩ := id hS
  refine (HN.out _).mono ?_
  rintro e w1 ⟨rfl, hb⟩
  replace hS := S2.below hS hb
  clear hb c1 c2 c3 c4
  obtain ⟨-, s2, c1, c2, c3, c4⟩ := id hS
  go_wp2_with fail
  refine (HM.out _).mono ?_
  rintro e w1 ⟨rfl, hb⟩
  replace hS := S2.below hS hb
  clear hb c1 c2 c3 c4
  obtain ⟨-, s2, c1, c2, c3, c4⟩ := id hS
  go_wp2_with fail
  exact bodyPost_ret (v := .tuple #[.bool (false), .int .i64 0]) (by simp [results, Tryd.results15, go_sem]) rfl ⟨rfl, S2.out (f := true) (g := true) (x := x) (y := y) (by assumption)⟩

set_option maxRecDepth 100000 in
set_option maxHeartbeats 800000 in
theorem r_test_11_num (x y : Nat) (hx : x < 18446744073709551616) (hy : y < 18446744073709551616) (h : ¬ 2047 * 2 ^ 52 < x % 2 ^ 63) (h2 : ¬ 2047 * 2 ^ 52 < y % 2 ^ 63) (w : World) :
    Calls Tryd.prog 15 #[.int .i64 11, .agg #[.bool true, .int .u64 x], .agg #[.bool true, .int .u64 y]] w fun e w' => e = .returned (.tuple #[.bool (Fl.key x == Fl.key y), .int .i64 (0)]) ∧ Below w.heap.size w w' := by
  have HN := Lib.hid (fun w => r_nan_no x hx h w)
  have HM := Lib.hid (fun w => r_nan_no y hy h2 w)
  clear h h2
  obtain ⟨W0, hW0, hS⟩ := boxes2 true true x y w
  have HW := Lib.hid hW0; clear hW0
  go_enter Tryd.func15, Tryd.ntmps15
  go_wp2_with fail
  rw [← HW.out]
  clear HW
  obtain ⟨-, s1, c1, c2, c3, c4⟩ := id hS
  refine (HN.out _).mono ?_
  rintro e w1 ⟨rfl, hb⟩
  replace hS := S2.below hS hb
  clear hb c1 c2 c3 c4
  obtain ⟨-, s2, c1, c2, c3, c4⟩ := id hS
  go_wp2_with fail
  refine (HM.out _).mono ?_
  rintro e w1 ⟨rfl, hb⟩
  replace hS := S2.below hS hb
  clear hb c1 c2 c3 c4
  obtain ⟨-, s2, c1, c2, c3, c4⟩ := id hS
  go_wp2_with fail
  go_region_held3 (fun w' => Below w.heap.size w w' ∧ w.heap.size + 2 ≤ w'.heap.size ∧
      w'.cell? ⟨w.heap.size, 0, none⟩ = some (.bool true) ∧ w'.cell? ⟨w.heap.size, 1, none⟩ = some (.int .u64 x) ∧
      w'.cell? ⟨w.heap.size + 1, 0, none⟩ = some (.bool true) ∧ w'.cell? ⟨w.heap.size + 1, 1, none⟩ = some (.int .u64 y))
    (first
      | exact S2.below (by assumption) hb
      | exact S2.drew (by assumption)
      | exact S2.drew ⟨by assumption, by assumption, by assumption, by assumption, by assumption, by assumption⟩)
    (first
      | (go_at_call 29; refine (r_key _ (by first | exact hx | exact hy) _).mono ?_; rintro e w' ⟨rfl, hb⟩))
  go_wp2
  exact bodyPost_ret (v := .tuple #[.bool (Fl.key x == Fl.key y), .int .i64 0]) (by simp [results, Tryd.results15, go_sem]) rfl ⟨rfl, S2.out (f := true) (g := true) (x := x) (y := y) (by assumption)⟩

set_option maxRecDepth 100000 in
set_option maxHeartbeats 800000 in
theorem r_test_12_left (x y : Nat) (hx : x < 18446744073709551616) (h : 2047 * 2 ^ 52 < x % 2 ^ 63) (w : World) :
    Calls Tryd.prog 15 #[.int .i64 12, .agg #[.bool true, .int .u64 x], .agg #[.bool true, .int .u64 y]] w fun e w' => e = .returned (.tuple #[.bool (false), .int .i64 (0)]) ∧ Below w.heap.size w w' := by
  have HN := Lib.hid (fun w => r_nan_yes x hx h w)
  clear h hx
  obtain ⟨W0, hW0, hS⟩ := boxes2 true true x y w
  have HW := Lib.hid hW0; clear hW0
  go_enter Tryd.func15, Tryd.ntmps15
  go_wp2_with fail
  rw [← HW.out]
  clear HW
  obtain ⟨-, s1, c1, c2, c3, c4⟩ := id hS
  refine (HN.out _).mono ?_
  rintro e w1 ⟨rfl, hb⟩
  replace hS := S2.below hS hb
  clear hb c1 c2 c3 c4
  obtain ⟨-, s2, c1, c2, c3, c4⟩ := id hS
  go_wp2_with fail
  exact bodyPost_ret (v := .tuple #[.bool (false), .int .i64 0]) (by simp [results, Tryd.results15, go_sem]) rfl ⟨rfl, S2.out (f := true) (g := true) (x := x) (y := y) (by assumption)⟩

set_option maxRecDepth 100000 in
set_option maxHeartbeats 800000 in
theorem r_test_12_right (x y : Nat) (hx : x < 18446744073709551616) (hy : y < 18446744073709551616) (h : ¬ 2047 * 2 ^ 52 < x % 2 ^ 63) (h2 : 2047 * 2 ^ 52 < y % 2 ^ 63) (w : World) :
    Calls Tryd.prog 15 #[.int .i64 12, .agg #[.bool true, .int .u64 x], .agg #[.bool true, .int .u64 y]] w fun e w' => e = .returned (.tuple #[.bool (false), .int .i64 (0)]) ∧ Below w.heap.size w w' := by
  have HN := Lib.hid (fun w => r_nan_no x hx h w)
  have HM := Lib.hid (fun w => r_nan_yes y hy h2 w)
  clear h h2 hx hy
  obtain ⟨W0, hW0, hS⟩ := boxes2 true true x y w
  have HW := Lib.hid hW0; clear hW0
  go_enter Tryd.func15, Tryd.ntmps15
  go_wp2_with fail
  rw [← HW.out]
  clear HW
  obtain ⟨-, s1, c1, c2, c3, c4⟩ := id hS
  refine (HN.out _).mono ?_
  rintro e w1 ⟨rfl, hb⟩
  replace hS := S2.below hS hb
  clear hb c1 c2 c3 c4
  obtain ⟨-, s2, c1, c2, c3, c4⟩ := id hS
  go_wp2_with fail
  refine (HM.out _).mono ?_
  rintro e w1 ⟨rfl, hb⟩
  replace hS := S2.below hS hb
  clear hb c1 c2 c3 c4
  obtain ⟨-, s2, c1, c2, c3, c4⟩ := id hS
  go_wp2_with fail
  exact bodyPost_ret (v := .tuple #[.bool (false), .int .i64 0]) (by simp [results, Tryd.results15, go_sem]) rfl ⟨rfl, S2.out (f := true) (g := true) (x := x) (y := y) (by assumption)⟩

set_option maxRecDepth 100000 in
set_option maxHeartbeats 800000 in
theorem r_test_12_num (x y : Nat) (hx : x < 18446744073709551616) (hy : y < 18446744073709551616) (h : ¬ 2047 * 2 ^ 52 < x % 2 ^ 63) (h2 : ¬ 2047 * 2 ^ 52 < y % 2 ^ 63) (w : World) :
    Calls Tryd.prog 15 #[.int .i64 12, .agg #[.bool true, .int .u64 x], .agg #[.bool true, .int .u64 y]] w fun e w' => e = .returned (.tuple #[.bool (decide (Fl.key x < Fl.key y)), .int .i64 (0)]) ∧ Below w.heap.size w w' := by
  have HN := Lib.hid (fun w => r_nan_no x hx h w)
  have HM := Lib.hid (fun w => r_nan_no y hy h2 w)
  clear h h2
  obtain ⟨W0, hW0, hS⟩ := boxes2 true true x y w
  have HW := Lib.hid hW0; clear hW0
  go_enter Tryd.func15, Tryd.ntmps15
  go_wp2_with fail
  rw [← HW.out]
  clear HW
  obtain ⟨-, s1, c1, c2, c3, c4⟩ := id hS
  refine (HN.out _).mono ?_
  rintro e w1 ⟨rfl, hb⟩
  replace hS := S2.below hS hb
  clear hb c1 c2 c3 c4
  obtain ⟨-, s2, c1, c2, c3, c4⟩ := id hS
  go_wp2_with fail
  refine (HM.out _).mono ?_
  rintro e w1 ⟨rfl, hb⟩
  replace hS := S2.below hS hb
  clear hb c1 c2 c3 c4
  obtain ⟨-, s2, c1, c2, c3, c4⟩ := id hS
  go_wp2_with fail
  go_region_held3 (fun w' => Below w.heap.size w w' ∧ w.heap.size + 2 ≤ w'.heap.size ∧
      w'.cell? ⟨w.heap.size, 0, none⟩ = some (.bool true) ∧ w'.cell? ⟨w.heap.size, 1, none⟩ = some (.int .u64 x) ∧
      w'.cell? ⟨w.heap.size + 1, 0, none⟩ = some (.bool true) ∧ w'.cell? ⟨w.heap.size + 1, 1, none⟩ = some (.int .u64 y))
    (first
      | exact S2.below (by assumption) hb
      | exact S2.drew (by assumption)
      | exact S2.drew ⟨by assumption, by assumption, by assumption, by assumption, by assumption, by assumption⟩)
    (first
      | (go_at_call 29; refine (r_key _ (by first | exact hx | exact hy) _).mono ?_; rintro e w' ⟨rfl, hb⟩))
  go_wp2
  exact bodyPost_ret (v := .tuple #[.bool (decide (Fl.key x < Fl.key y)), .int .i64 0]) (by simp [results, Tryd.results15, go_sem]) rfl ⟨rfl, S2.out (f := true) (g := true) (x := x) (y := y) (by assumption)⟩

theorem r_test_11 (x y : Nat) (hx : x < 18446744073709551616) (hy : y < 18446744073709551616) (w : World) :
    Calls Tryd.prog 15 #[.int .i64 11, .agg #[.bool true, .int .u64 x], .agg #[.bool true, .int .u64 y]] w fun e w' => e = .returned (.tuple #[.bool (Fl.F.order x y == some .eq), .int .i64 0]) ∧ Below w.heap.size w w' := by
  by_cases h : 2047 * 2 ^ 52 < x % 2 ^ 63
  · rw [Fl.order_nan_left x y h]; exact r_test_11_left x y hx h w
  · by_cases h2 : 2047 * 2 ^ 52 < y % 2 ^ 63
    · rw [Fl.order_nan_right x y h2]; exact r_test_11_right x y hx hy h h2 w
    · have e : (Fl.F.order x y == some .eq) = (Fl.key x == Fl.key y) := by
        rw [Fl.order_key x y hx hy h h2, Bool.eq_iff_iff, beq_iff_eq, beq_iff_eq, Option.some.injEq, Int.compare_eq_eq]
      rw [e]; exact r_test_11_num x y hx hy h h2 w

theorem r_test_12 (x y : Nat) (hx : x < 18446744073709551616) (hy : y < 18446744073709551616) (w : World) :
    Calls Tryd.prog 15 #[.int .i64 12, .agg #[.bool true, .int .u64 x], .agg #[.bool true, .int .u64 y]] w fun e w' => e = .returned (.tuple #[.bool (Fl.F.order x y == some .lt), .int .i64 0]) ∧ Below w.heap.size w w' := by
  by_cases h : 2047 * 2 ^ 52 < x % 2 ^ 63
  · rw [Fl.order_nan_left x y h]; exact r_test_12_left x y hx h w
  · by_cases h2 : 2047 * 2 ^ 52 < y % 2 ^ 63
    · rw [Fl.order_nan_right x y h2]; exact r_test_12_right x y hx hy h h2 w
    · have e : (Fl.F.order x y == some .lt) = decide (Fl.key x < Fl.key y) := by
        rw [Fl.order_key x y hx hy h h2, Bool.eq_iff_iff, beq_iff_eq, decide_eq_true_iff, Option.some.injEq, Int.compare_eq_lt]
      rw [e]; exact r_test_12_num x y hx hy h h2 w

end Go.Proofs.YtkmickgngijdlaaDoor
