/- Contracts of the document's own answers, continued: ints. -/
import Derived.Test.YtkmickgngijdlaaDoorRefB
import Derived.Lib.Zigzag
namespace Go.Proofs.YtkmickgngijdlaaDoor
open Go.RowKit

theorem U_range (a : Int) : 0 ≤ U a ∧ U a ≤ 18446744073709551615 := by rw [U_eq]; omega

theorem U_nat (a : Int) : ∃ n : Nat, U a = n ∧ n < 18446744073709551616 := ⟨(U a).toNat, by have := U_range a; omega, by have := U_range a; omega⟩

theorem U_add (a b : Int) : (U a + U b) % 18446744073709551616 = U (a + b) := by simp only [U_eq]; omega
theorem U_sub (a b : Int) : (U a - U b) % 18446744073709551616 = U (a - b) := by simp only [U_eq]; omega
theorem U_mul (a b : Int) : (U a * U b) % 18446744073709551616 = U (a * b) := by simp only [U_eq]; exact (Int.mul_emod _ _ _).symm

theorem not_u64 (y : Int) (h1 : 0 ≤ y) (h2 : y ≤ 18446744073709551615) : bits .xor .u64 IntKind.u64.max y = 18446744073709551615 - y := by
  have e : (IntKind.u64.max : Int) = ((18446744073709551615 : Nat) : Int) := by decide
  obtain ⟨n, rfl⟩ : ∃ n : Nat, y = n := ⟨y.toNat, by omega⟩
  rw [e, bits_xor_u64_nat _ _ (by decide) (by omega)]
  have h := Lib.xor_ones64 n (by omega)
  have e2 : (18446744073709551615 : Nat) = 2 ^ 64 - 1 := by decide
  rw [e2, h]
  omega

/-- The state behind one box. -/
def S1 (w : World) (W : World) : Prop := Below w.heap.size w W ∧ w.heap.size + 1 ≤ W.heap.size ∧ W.cell? ⟨w.heap.size, 0, none⟩ = some (.bool false) ∧ W.cell? ⟨w.heap.size, 1, none⟩ = some (.int .u64 0) ∧
  W.frozen? ⟨w.heap.size, 0, none⟩ = false ∧ W.frozen? ⟨w.heap.size, 1, none⟩ = false

theorem S1.start (w : World) : S1 w (w.alloc (Obj.cells #[Value.bool false, Value.int IntKind.u64 0] 24)) :=
  ⟨(Below.refl _ _).alloc (Nat.le_refl _) _, by simp, by simp, by simp, by simp, by simp⟩

theorem S1.below {w W w' : World} (h : S1 w W) (hb : Below W.heap.size W w') : S1 w w' := by
  obtain ⟨h0, h1, c1, c2, z1, z2⟩ := h
  have hs := hb.size
  exact ⟨stepB h0 hb, by omega, cell_later hb c1, cell_later hb c2, (hb.frozen (by show w.heap.size < W.heap.size; omega)).trans z1, (hb.frozen (by show w.heap.size < W.heap.size; omega)).trans z2⟩

theorem S1.fin {w W : World} (h : S1 w W) (u v : Value) :
    Below w.heap.size w ((W.setCell ⟨w.heap.size, 0, none⟩ u).setCell ⟨w.heap.size, 1, none⟩ v) ∧
    ((W.setCell ⟨w.heap.size, 0, none⟩ u).setCell ⟨w.heap.size, 1, none⟩ v).cell? ⟨w.heap.size, 0, none⟩ = some u ∧
    ((W.setCell ⟨w.heap.size, 0, none⟩ u).setCell ⟨w.heap.size, 1, none⟩ v).cell? ⟨w.heap.size, 1, none⟩ = some v := by
  obtain ⟨h0, h1, c1, c2, z1, z2⟩ := h
  refine ⟨(h0.setCell (by simp) _).setCell (by simp) _, ?_, ?_⟩
  · rw [World.cell?_setCell_other (h := by simp)]; exact World.cell?_setCell_same _ _ _ c1
  · exact World.cell?_setCell_same _ _ _ (u := .int .u64 0) (by rw [World.cell?_setCell_other (h := by simp)]; exact c2)

theorem ret_nu {a b : Int} {e : Int} (h : a = b) : Ending.returned (.tuple #[.agg #[.bool false, .int .u64 a], .int .i64 e]) = .returned (.tuple #[.agg #[.bool false, .int .u64 b], .int .i64 e]) := by rw [h]

set_option maxRecDepth 100000 in
set_option maxHeartbeats 400000 in
theorem r_ints0 (a b : Int) (w : World) :
    Calls Tryd.prog 26 #[.int .i64 0, .int .u64 (U a), .int .u64 (U b)] w fun e w' => e = .returned (.tuple #[.agg #[.bool false, .int .u64 (U (wrap64 (a + b)))], .int .i64 0]) ∧ Below w.heap.size w w' := by
  have hB := Below.refl w.heap.size w
  have E := Lib.hid (U_add a b)
  obtain ⟨u1, u2⟩ := U_range a
  obtain ⟨v1, v2⟩ := U_range b
  rw [U_wrap64]
  generalize U (a + b) = z at *
  generalize U a = x at *
  generalize U b = y at *
  go_enter Tryd.func26, Tryd.ntmps26
  go_wp2_with fail
  exact bodyPost_ret (v := .tuple #[.agg #[.bool false, .int .u64 (IntKind.u64.wrap (x + y))], .int .i64 0]) (by simp [results, Tryd.results26, go_sem]) rfl ⟨ret_nu (by rw [← E.out]; simp only [IntKind.wrap_u64]), hB.alloc hB.size _⟩

set_option maxRecDepth 100000 in
set_option maxHeartbeats 400000 in
theorem r_ints1 (a b : Int) (w : World) :
    Calls Tryd.prog 26 #[.int .i64 1, .int .u64 (U a), .int .u64 (U b)] w fun e w' => e = .returned (.tuple #[.agg #[.bool false, .int .u64 (U (wrap64 (a - b)))], .int .i64 0]) ∧ Below w.heap.size w w' := by
  have hB := Below.refl w.heap.size w
  have E := Lib.hid (U_sub a b)
  obtain ⟨u1, u2⟩ := U_range a
  obtain ⟨v1, v2⟩ := U_range b
  rw [U_wrap64]
  generalize U (a - b) = z at *
  generalize U a = x at *
  generalize U b = y at *
  have hN := not_u64 y v1 v2
  go_enter Tryd.func26, Tryd.ntmps26
  go_wp2_with fail
  exact bodyPost_ret (v := .tuple #[.agg #[.bool false, .int .u64 (IntKind.u64.wrap (x + IntKind.u64.wrap (18446744073709551615 - y + 1)))], .int .i64 0]) (by simp [results, Tryd.results26, go_sem]) rfl ⟨ret_nu (by rw [← E.out]; simp only [IntKind.wrap_u64];omega), hB.alloc hB.size _⟩

set_option maxRecDepth 100000 in
set_option maxHeartbeats 400000 in
theorem r_ints2 (a b : Int) (w : World) :
    Calls Tryd.prog 26 #[.int .i64 2, .int .u64 (U a), .int .u64 (U b)] w fun e w' => e = .returned (.tuple #[.agg #[.bool false, .int .u64 (U (wrap64 (a * b)))], .int .i64 0]) ∧ Below w.heap.size w w' := by
  have hB := Below.refl w.heap.size w
  have E := Lib.hid (U_mul a b)
  rw [U_wrap64]
  obtain ⟨x, ex, hx⟩ := U_nat a
  obtain ⟨y, ey, hy⟩ := U_nat b
  rw [ex, ey] at E ⊢
  generalize U (a * b) = z at *
  clear ex ey
  have HP := Lib.hid (fun w => r_product x y w hx hy)
  go_enter Tryd.func26, Tryd.ntmps26
  go_wp2_with fail
  have hS := S1.start w
  refine (HP.out _).mono ?_
  rintro e w1 ⟨rfl, hb⟩
  replace hS := S1.below hS hb
  clear hb HP
  obtain ⟨-, s1, c1, c2, z1, z2⟩ := id hS
  go_wp2_with fail
  obtain ⟨hb, q0, q1⟩ := S1.fin hS (.bool false) (.int .u64 ((x : Int) * (y : Int) % 18446744073709551616))
  exact bodyPost_ret (v := .tuple #[.agg #[.bool false, .int .u64 ((x : Int) * (y : Int) % 18446744073709551616)], .int .i64 0]) (by simp [results, Tryd.results26, go_sem, q0, q1]) rfl ⟨ret_nu E.out, hb⟩

set_option maxRecDepth 100000 in
set_option maxHeartbeats 400000 in
theorem r_ints3_bad (a b : Int) (w : World) (ha : InR a) (hb : InR b) (hd : dv a b ≠ 0) :
    Calls Tryd.prog 26 #[.int .i64 3, .int .u64 (U a), .int .u64 (U b)] w fun e w' => e = .returned (.tuple #[.agg #[.bool false, .int .u64 (0)], .int .i64 (dv a b)]) ∧ Below w.heap.size w w' := by
  have hB := Below.refl w.heap.size w
  have ea := wrap64_U a ha
  have eb := wrap64_U b hb
  have hU : (U a == 9223372036854775808) = decide (a = -9223372036854775808) := by
    rw [U_eq, Bool.eq_iff_iff, beq_iff_eq, decide_eq_true_iff]; obtain ⟨h1, h2⟩ := ha; omega
  have hV : IntKind.i64.wrap (U b) = b := by rw [i64wrap, eb]
  have hX : IntKind.i64.wrap (U a) = a := by rw [i64wrap, ea]
  unfold dv at hd ⊢
  clear ea eb ha hb
  generalize U a = x at *
  generalize U b = y at *
  by_cases h0 : b = 0
  · subst h0
    rw [if_pos rfl]
    clear hd
    go_enter Tryd.func26, Tryd.ntmps26
    go_wp2_with fail
    exact bodyPost_ret (v := .tuple #[.agg #[.bool false, .int .u64 0], .int .i64 7]) (by simp [results, Tryd.results26, go_sem]) rfl ⟨rfl, hB.alloc hB.size _⟩
  · have h8 : a = -9223372036854775808 ∧ b = -1 := by
      rw [if_neg h0] at hd
      by_cases h : a = -9223372036854775808 ∧ b = -1
      · exact h
      · rw [if_neg h] at hd; exact absurd rfl hd
    rw [if_neg h0, if_pos h8]
    obtain ⟨rfl, rfl⟩ := h8
    clear hd h0
    have hU' : x = 9223372036854775808 := by simpa using hU
    subst hU'
    clear hU
    go_enter Tryd.func26, Tryd.ntmps26
    go_wp2_with fail
    exact bodyPost_ret (v := .tuple #[.agg #[.bool false, .int .u64 0], .int .i64 8]) (by simp [results, Tryd.results26, go_sem]) rfl ⟨rfl, hB.alloc hB.size _⟩

set_option maxRecDepth 100000 in
set_option maxHeartbeats 400000 in
theorem r_ints3_ok (a b : Int) (w : World) (ha : InR a) (hb : InR b) (hd : dv a b = 0) (h0 : b ≠ 0) :
    Calls Tryd.prog 26 #[.int .i64 3, .int .u64 (U a), .int .u64 (U b)] w fun e w' => e = .returned (.tuple #[.agg #[.bool false, .int .u64 (U (wrap64 (a.tdiv b)))], .int .i64 0]) ∧ Below w.heap.size w w' := by
  have hB := Below.refl w.heap.size w
  have HQ := Lib.hid (fun w => r_quotient a b w ha hb h0)
  have ea := wrap64_U a ha
  have eb := wrap64_U b hb
  have hU : (U a == 9223372036854775808 && b == -1) = false := by
    unfold dv at hd
    rw [if_neg h0] at hd
    by_cases h : a = -9223372036854775808 ∧ b = -1
    · rw [if_pos h] at hd; exact absurd hd (by decide)
    · rw [Bool.and_eq_false_iff, beq_eq_false_iff_ne, beq_eq_false_iff_ne]
      by_cases h1 : b = -1
      · exact .inl (by rw [U_eq]; obtain ⟨h3, h4⟩ := ha; intro h5; exact h ⟨by omega, h1⟩)
      · exact .inr h1
  have hV : IntKind.i64.wrap (U b) = b := by rw [i64wrap, eb]
  have hX : IntKind.i64.wrap (U a) = a := by rw [i64wrap, ea]
  rw [U_wrap64]
  generalize U (a.tdiv b) = q at *
  generalize U (a.tmod b) = r at *
  clear ea eb ha hb hd
  generalize U a = x at *
  generalize U b = y at *
  by_cases h1 : x = 9223372036854775808
  · have h2 : b ≠ -1 := by intro h; subst h1; subst h; simp at hU
    clear hU
    subst h1
    go_enter Tryd.func26, Tryd.ntmps26
    go_wp2_with fail
    have hS := S1.start w
    refine (HQ.out _).mono ?_
    rintro e w1 ⟨rfl, hb⟩
    replace hS := S1.below hS hb
    clear hb HQ
    obtain ⟨-, s1, c1, c2, z1, z2⟩ := id hS
    go_wp2_with fail
    obtain ⟨hb, q0, q1⟩ := S1.fin hS (.bool false) (.int .u64 q)
    exact bodyPost_ret (v := .tuple #[.agg #[.bool false, .int .u64 q], .int .i64 0]) (by simp [results, Tryd.results26, go_sem, q0, q1]) rfl ⟨rfl, hb⟩
  · clear hU
    go_enter Tryd.func26, Tryd.ntmps26
    go_wp2_with fail
    have hS := S1.start w
    refine (HQ.out _).mono ?_
    rintro e w1 ⟨rfl, hb⟩
    replace hS := S1.below hS hb
    clear hb HQ
    obtain ⟨-, s1, c1, c2, z1, z2⟩ := id hS
    go_wp2_with fail
    obtain ⟨hb, q0, q1⟩ := S1.fin hS (.bool false) (.int .u64 q)
    exact bodyPost_ret (v := .tuple #[.agg #[.bool false, .int .u64 q], .int .i64 0]) (by simp [results, Tryd.results26, go_sem, q0, q1]) rfl ⟨rfl, hb⟩

set_option maxRecDepth 100000 in
set_option maxHeartbeats 400000 in
theorem r_ints4_bad (a b : Int) (w : World) (ha : InR a) (hb : InR b) (hd : dv a b ≠ 0) :
    Calls Tryd.prog 26 #[.int .i64 4, .int .u64 (U a), .int .u64 (U b)] w fun e w' => e = .returned (.tuple #[.agg #[.bool false, .int .u64 (0)], .int .i64 (dv a b)]) ∧ Below w.heap.size w w' := by
  have hB := Below.refl w.heap.size w
  have ea := wrap64_U a ha
  have eb := wrap64_U b hb
  have hU : (U a == 9223372036854775808) = decide (a = -9223372036854775808) := by
    rw [U_eq, Bool.eq_iff_iff, beq_iff_eq, decide_eq_true_iff]; obtain ⟨h1, h2⟩ := ha; omega
  have hV : IntKind.i64.wrap (U b) = b := by rw [i64wrap, eb]
  have hX : IntKind.i64.wrap (U a) = a := by rw [i64wrap, ea]
  unfold dv at hd ⊢
  clear ea eb ha hb
  generalize U a = x at *
  generalize U b = y at *
  by_cases h0 : b = 0
  · subst h0
    rw [if_pos rfl]
    clear hd
    go_enter Tryd.func26, Tryd.ntmps26
    go_wp2_with fail
    exact bodyPost_ret (v := .tuple #[.agg #[.bool false, .int .u64 0], .int .i64 7]) (by simp [results, Tryd.results26, go_sem]) rfl ⟨rfl, hB.alloc hB.size _⟩
  · have h8 : a = -9223372036854775808 ∧ b = -1 := by
      rw [if_neg h0] at hd
      by_cases h : a = -9223372036854775808 ∧ b = -1
      · exact h
      · rw [if_neg h] at hd; exact absurd rfl hd
    rw [if_neg h0, if_pos h8]
    obtain ⟨rfl, rfl⟩ := h8
    clear hd h0
    have hU' : x = 9223372036854775808 := by simpa using hU
    subst hU'
    clear hU
    go_enter Tryd.func26, Tryd.ntmps26
    go_wp2_with fail
    exact bodyPost_ret (v := .tuple #[.agg #[.bool false, .int .u64 0], .int .i64 8]) (by simp [results, Tryd.results26, go_sem]) rfl ⟨rfl, hB.alloc hB.size _⟩

set_option maxRecDepth 100000 in
set_option maxHeartbeats 400000 in
theorem r_ints4_ok (a b : Int) (w : World) (ha : InR a) (hb : InR b) (hd : dv a b = 0) (h0 : b ≠ 0) :
    Calls Tryd.prog 26 #[.int .i64 4, .int .u64 (U a), .int .u64 (U b)] w fun e w' => e = .returned (.tuple #[.agg #[.bool false, .int .u64 (U (a.tmod b))], .int .i64 0]) ∧ Below w.heap.size w w' := by
  have hB := Below.refl w.heap.size w
  have HQ := Lib.hid (fun w => r_quotient a b w ha hb h0)
  have ea := wrap64_U a ha
  have eb := wrap64_U b hb
  have hU : (U a == 9223372036854775808 && b == -1) = false := by
    unfold dv at hd
    rw [if_neg h0] at hd
    by_cases h : a = -9223372036854775808 ∧ b = -1
    · rw [if_pos h] at hd; exact absurd hd (by decide)
    · rw [Bool.and_eq_false_iff, beq_eq_false_iff_ne, beq_eq_false_iff_ne]
      by_cases h1 : b = -1
      · exact .inl (by rw [U_eq]; obtain ⟨h3, h4⟩ := ha; intro h5; exact h ⟨by omega, h1⟩)
      · exact .inr h1
  have hV : IntKind.i64.wrap (U b) = b := by rw [i64wrap, eb]
  have hX : IntKind.i64.wrap (U a) = a := by rw [i64wrap, ea]
  generalize U (a.tdiv b) = q at *
  generalize U (a.tmod b) = r at *
  clear ea eb ha hb hd
  generalize U a = x at *
  generalize U b = y at *
  by_cases h1 : x = 9223372036854775808
  · have h2 : b ≠ -1 := by intro h; subst h1; subst h; simp at hU
    clear hU
    subst h1
    go_enter Tryd.func26, Tryd.ntmps26
    go_wp2_with fail
    have hS := S1.start w
    refine (HQ.out _).mono ?_
    rintro e w1 ⟨rfl, hb⟩
    replace hS := S1.below hS hb
    clear hb HQ
    obtain ⟨-, s1, c1, c2, z1, z2⟩ := id hS
    go_wp2_with fail
    obtain ⟨hb, q0, q1⟩ := S1.fin hS (.bool false) (.int .u64 r)
    exact bodyPost_ret (v := .tuple #[.agg #[.bool false, .int .u64 r], .int .i64 0]) (by simp [results, Tryd.results26, go_sem, q0, q1]) rfl ⟨rfl, hb⟩
  · clear hU
    go_enter Tryd.func26, Tryd.ntmps26
    go_wp2_with fail
    have hS := S1.start w
    refine (HQ.out _).mono ?_
    rintro e w1 ⟨rfl, hb⟩
    replace hS := S1.below hS hb
    clear hb HQ
    obtain ⟨-, s1, c1, c2, z1, z2⟩ := id hS
    go_wp2_with fail
    obtain ⟨hb, q0, q1⟩ := S1.fin hS (.bool false) (.int .u64 r)
    exact bodyPost_ret (v := .tuple #[.agg #[.bool false, .int .u64 r], .int .i64 0]) (by simp [results, Tryd.results26, go_sem, q0, q1]) rfl ⟨rfl, hb⟩

end Go.Proofs.YtkmickgngijdlaaDoor
