/- Contracts of the document's own answers, continued: Calc. -/
import Derived.Test.YtkmickgngijdlaaDoorRefD
namespace Go.Proofs.YtkmickgngijdlaaDoor
open Go.RowKit

theorem S3.drewN {w : World} {f g : Bool} {x y : Int} {W : World} (h : S3 w f g x y W) (n : Nat) : S3 w f g x y (W.drewN n) := by
  induction n with
  | zero => exact h
  | succ n ih => exact ih.drew

set_option maxRecDepth 100000 in
set_option maxHeartbeats 800000 in
theorem r_calc_range (op : Int) (f g : Bool) (x y : Int) (h : op < 0 ∨ 14 < op ∨ op = 5 ∨ op = 6 ∨ op = 11 ∨ op = 12) (w : World) :
    Calls Tryd.prog 13 #[.int .i64 op, .agg #[.bool f, .int .u64 x], .agg #[.bool g, .int .u64 y]] w fun e w' => e = .returned (.tuple #[.agg #[.bool false, .int .u64 0], .int .i64 (1)]) ∧ Below w.heap.size w w' := by
  have hB := Below.refl w.heap.size w
  rcases h with h | h | rfl | rfl | rfl | rfl
  all_goals
    go_enter Tryd.func13, Tryd.ntmps13
    go_wp2_with fail
    exact bodyPost_ret (v := .tuple #[.agg #[.bool false, .int .u64 0], .int .i64 1]) (by simp [results, Tryd.results13, go_sem]) rfl ⟨rfl, ((hB.alloc hB.size _).alloc (by simp) _).alloc (by simp; omega) _⟩

theorem r_flt_num (n : Nat) (h1 : n < 2 ^ 64) (h2 : ¬ 2047 * 2 ^ 52 < n % 2 ^ 63) (w : World) :
    Calls Tryd.prog 24 #[.float .f64 n] w fun e w' => e = .returned (.agg #[.bool true, .int .u64 (n : Int)]) ∧ Below w.heap.size w w' := by
  have h := r_flt n h1 w
  rw [if_neg h2] at h
  exact h

theorem r_flt_nan (n : Nat) (h1 : n < 2 ^ 64) (h2 : 2047 * 2 ^ 52 < n % 2 ^ 63) (w : World) :
    Calls Tryd.prog 24 #[.float .f64 n] w fun e w' => e = .returned (.agg #[.bool true, .int .u64 9221120237041090560]) ∧ Below w.heap.size w w' := by
  have h := r_flt n h1 w
  rw [if_pos h2] at h
  exact h

theorem nq_parts (w : World) (x y : Nat) : nq w x y < 2 ^ 64 ∧ 2047 * 2 ^ 52 < nq w x y % 2 ^ 63 := by
  unfold nq
  simp only [Question.cut]
  generalize w.tape w.drawn _ = t
  have ha : t % 2 < 2 := by omega
  have hb : t / 2 % (2 ^ 52 - 1) < 2 ^ 52 - 1 := Nat.mod_lt _ (by decide)
  generalize t % 2 = a at ha ⊢
  generalize t / 2 % (2 ^ 52 - 1) = b at hb ⊢
  constructor <;> omega

set_option maxRecDepth 100000 in
set_option maxHeartbeats 800000 in
theorem r_calc_7 (x y : Nat) (w : World) :
    Calls Tryd.prog 13 #[.int .i64 7, .agg #[.bool true, .int .u64 x], .agg #[.bool true, .int .u64 y]] w fun e w' => e = .returned (.tuple #[.agg #[.bool true, .int .u64 (fo (Fl.F.add x y))], .int .i64 (0)]) ∧ Below w.heap.size w w' := by
  have ex := fun w => frombits_run x w
  have ey := fun w => frombits_run y w
  rw [show (x : Int).toNat = x from rfl] at ex
  rw [show (y : Int).toNat = y from rfl] at ey
  obtain ⟨W0, hW0, hS⟩ := boxes true true x y w
  have HW := Lib.hid hW0; clear hW0
  cases h : Fl.F.add x y with
  | none =>
    have ea := fun w => run_float_none .add 53 x y w (by simp) h
    rw [show fo none = 9221120237041090560 from rfl]
    clear h
    go_enter Tryd.func13, Tryd.ntmps13
    go_wp2_with fail
    rw [← HW.out]
    clear HW
    obtain ⟨-, s1, c1, c2, c3, c4, c5, c6, z1, z2⟩ := id hS
    go_quiet (fail)
    replace hS := S3.drewN hS nq
    clear c1 c2 c3 c4 c5 c6 z1 z2 ex ey
    generalize W0.drewN nq = W1 at hS ⊢
    obtain ⟨-, s1, c1, c2, c3, c4, c5, c6, z1, z2⟩ := id hS
    go_wp2_with fail
    refine (r_flt_nan _ (nq_parts _ _ _).1 (nq_parts _ _ _).2 _).mono ?_
    rintro e w2 ⟨rfl, hb⟩
    replace hS := S3.below (S3.drew hS) hb
    clear hb c1 c2 c3 c4 c5 c6 z1 z2
    obtain ⟨-, s2, c1, c2, c3, c4, c5, c6, z1, z2⟩ := id hS
    go_wp2_with fail
    obtain ⟨hb, q0, q1⟩ := S3.fin (S3.store hS (.bool true) (.int .u64 9221120237041090560))
    exact bodyPost_ret (v := .tuple #[.agg #[.bool true, .int .u64 9221120237041090560], .int .i64 0]) (by simp [results, Tryd.results13, go_sem, q0, q1]) rfl ⟨rfl, hb⟩
  | some r =>
    have ea := fun w => run_float_arith (P := Tryd.prog) w .add 53 .f64 x y r h
    obtain ⟨h1, h2⟩ := Fl.add_num h
    have HF := Lib.hid (fun w => r_flt_num r h1 h2 w)
    rw [show fo (some r) = (r : Int) from rfl]
    clear h h1 h2
    go_enter Tryd.func13, Tryd.ntmps13
    go_wp2_with fail
    rw [← HW.out]
    clear HW
    obtain ⟨-, s1, c1, c2, c3, c4, c5, c6, z1, z2⟩ := id hS
    go_quiet (fail)
    replace hS := S3.drewN hS nq
    clear c1 c2 c3 c4 c5 c6 z1 z2 ex ey
    generalize W0.drewN nq = W1 at hS ⊢
    obtain ⟨-, s1, c1, c2, c3, c4, c5, c6, z1, z2⟩ := id hS
    go_wp2_with fail
    refine (HF.out _).mono ?_
    rintro e w2 ⟨rfl, hb⟩
    replace hS := S3.below hS hb
    clear hb c1 c2 c3 c4 c5 c6 z1 z2
    obtain ⟨-, s2, c1, c2, c3, c4, c5, c6, z1, z2⟩ := id hS
    go_wp2_with fail
    obtain ⟨hb, q0, q1⟩ := S3.fin (S3.store hS (.bool true) (.int .u64 (r : Int)))
    exact bodyPost_ret (v := .tuple #[.agg #[.bool true, .int .u64 (r : Int)], .int .i64 0]) (by simp [results, Tryd.results13, go_sem, q0, q1]) rfl ⟨rfl, hb⟩

set_option maxRecDepth 100000 in
set_option maxHeartbeats 800000 in
theorem r_calc_8 (x y : Nat) (w : World) :
    Calls Tryd.prog 13 #[.int .i64 8, .agg #[.bool true, .int .u64 x], .agg #[.bool true, .int .u64 y]] w fun e w' => e = .returned (.tuple #[.agg #[.bool true, .int .u64 (fo (Fl.F.sub x y))], .int .i64 (0)]) ∧ Below w.heap.size w w' := by
  have ex := fun w => frombits_run x w
  have ey := fun w => frombits_run y w
  rw [show (x : Int).toNat = x from rfl] at ex
  rw [show (y : Int).toNat = y from rfl] at ey
  obtain ⟨W0, hW0, hS⟩ := boxes true true x y w
  have HW := Lib.hid hW0; clear hW0
  cases h : Fl.F.sub x y with
  | none =>
    have ea := fun w => run_float_none .sub 53 x y w (by simp) h
    rw [show fo none = 9221120237041090560 from rfl]
    clear h
    go_enter Tryd.func13, Tryd.ntmps13
    go_wp2_with fail
    rw [← HW.out]
    clear HW
    obtain ⟨-, s1, c1, c2, c3, c4, c5, c6, z1, z2⟩ := id hS
    go_quiet (fail)
    replace hS := S3.drewN hS nq
    clear c1 c2 c3 c4 c5 c6 z1 z2 ex ey
    generalize W0.drewN nq = W1 at hS ⊢
    obtain ⟨-, s1, c1, c2, c3, c4, c5, c6, z1, z2⟩ := id hS
    go_wp2_with fail
    refine (r_flt_nan _ (nq_parts _ _ _).1 (nq_parts _ _ _).2 _).mono ?_
    rintro e w2 ⟨rfl, hb⟩
    replace hS := S3.below (S3.drew hS) hb
    clear hb c1 c2 c3 c4 c5 c6 z1 z2
    obtain ⟨-, s2, c1, c2, c3, c4, c5, c6, z1, z2⟩ := id hS
    go_wp2_with fail
    obtain ⟨hb, q0, q1⟩ := S3.fin (S3.store hS (.bool true) (.int .u64 9221120237041090560))
    exact bodyPost_ret (v := .tuple #[.agg #[.bool true, .int .u64 9221120237041090560], .int .i64 0]) (by simp [results, Tryd.results13, go_sem, q0, q1]) rfl ⟨rfl, hb⟩
  | some r =>
    have ea := fun w => run_float_arith (P := Tryd.prog) w .sub 53 .f64 x y r h
    obtain ⟨h1, h2⟩ := Fl.sub_num h
    have HF := Lib.hid (fun w => r_flt_num r h1 h2 w)
    rw [show fo (some r) = (r : Int) from rfl]
    clear h h1 h2
    go_enter Tryd.func13, Tryd.ntmps13
    go_wp2_with fail
    rw [← HW.out]
    clear HW
    obtain ⟨-, s1, c1, c2, c3, c4, c5, c6, z1, z2⟩ := id hS
    go_quiet (fail)
    replace hS := S3.drewN hS nq
    clear c1 c2 c3 c4 c5 c6 z1 z2 ex ey
    generalize W0.drewN nq = W1 at hS ⊢
    obtain ⟨-, s1, c1, c2, c3, c4, c5, c6, z1, z2⟩ := id hS
    go_wp2_with fail
    refine (HF.out _).mono ?_
    rintro e w2 ⟨rfl, hb⟩
    replace hS := S3.below hS hb
    clear hb c1 c2 c3 c4 c5 c6 z1 z2
    obtain ⟨-, s2, c1, c2, c3, c4, c5, c6, z1, z2⟩ := id hS
    go_wp2_with fail
    obtain ⟨hb, q0, q1⟩ := S3.fin (S3.store hS (.bool true) (.int .u64 (r : Int)))
    exact bodyPost_ret (v := .tuple #[.agg #[.bool true, .int .u64 (r : Int)], .int .i64 0]) (by simp [results, Tryd.results13, go_sem, q0, q1]) rfl ⟨rfl, hb⟩

set_option maxRecDepth 100000 in
set_option maxHeartbeats 800000 in
theorem r_calc_9 (x y : Nat) (w : World) :
    Calls Tryd.prog 13 #[.int .i64 9, .agg #[.bool true, .int .u64 x], .agg #[.bool true, .int .u64 y]] w fun e w' => e = .returned (.tuple #[.agg #[.bool true, .int .u64 (fo (Fl.F.mul x y))], .int .i64 (0)]) ∧ Below w.heap.size w w' := by
  have ex := fun w => frombits_run x w
  have ey := fun w => frombits_run y w
  rw [show (x : Int).toNat = x from rfl] at ex
  rw [show (y : Int).toNat = y from rfl] at ey
  obtain ⟨W0, hW0, hS⟩ := boxes true true x y w
  have HW := Lib.hid hW0; clear hW0
  cases h : Fl.F.mul x y with
  | none =>
    have ea := fun w => run_float_none .mul 53 x y w (by simp) h
    rw [show fo none = 9221120237041090560 from rfl]
    clear h
    go_enter Tryd.func13, Tryd.ntmps13
    go_wp2_with fail
    rw [← HW.out]
    clear HW
    obtain ⟨-, s1, c1, c2, c3, c4, c5, c6, z1, z2⟩ := id hS
    go_quiet (fail)
    replace hS := S3.drewN hS nq
    clear c1 c2 c3 c4 c5 c6 z1 z2 ex ey
    generalize W0.drewN nq = W1 at hS ⊢
    obtain ⟨-, s1, c1, c2, c3, c4, c5, c6, z1, z2⟩ := id hS
    go_wp2_with fail
    refine (r_flt_nan _ (nq_parts _ _ _).1 (nq_parts _ _ _).2 _).mono ?_
    rintro e w2 ⟨rfl, hb⟩
    replace hS := S3.below (S3.drew hS) hb
    clear hb c1 c2 c3 c4 c5 c6 z1 z2
    obtain ⟨-, s2, c1, c2, c3, c4, c5, c6, z1, z2⟩ := id hS
    go_wp2_with fail
    obtain ⟨hb, q0, q1⟩ := S3.fin (S3.store hS (.bool true) (.int .u64 9221120237041090560))
    exact bodyPost_ret (v := .tuple #[.agg #[.bool true, .int .u64 9221120237041090560], .int .i64 0]) (by simp [results, Tryd.results13, go_sem, q0, q1]) rfl ⟨rfl, hb⟩
  | some r =>
    have ea := fun w => run_float_arith (P := Tryd.prog) w .mul 53 .f64 x y r h
    obtain ⟨h1, h2⟩ := Fl.mul_num h
    have HF := Lib.hid (fun w => r_flt_num r h1 h2 w)
    rw [show fo (some r) = (r : Int) from rfl]
    clear h h1 h2
    go_enter Tryd.func13, Tryd.ntmps13
    go_wp2_with fail
    rw [← HW.out]
    clear HW
    obtain ⟨-, s1, c1, c2, c3, c4, c5, c6, z1, z2⟩ := id hS
    go_quiet (fail)
    replace hS := S3.drewN hS nq
    clear c1 c2 c3 c4 c5 c6 z1 z2 ex ey
    generalize W0.drewN nq = W1 at hS ⊢
    obtain ⟨-, s1, c1, c2, c3, c4, c5, c6, z1, z2⟩ := id hS
    go_wp2_with fail
    refine (HF.out _).mono ?_
    rintro e w2 ⟨rfl, hb⟩
    replace hS := S3.below hS hb
    clear hb c1 c2 c3 c4 c5 c6 z1 z2
    obtain ⟨-, s2, c1, c2, c3, c4, c5, c6, z1, z2⟩ := id hS
    go_wp2_with fail
    obtain ⟨hb, q0, q1⟩ := S3.fin (S3.store hS (.bool true) (.int .u64 (r : Int)))
    exact bodyPost_ret (v := .tuple #[.agg #[.bool true, .int .u64 (r : Int)], .int .i64 0]) (by simp [results, Tryd.results13, go_sem, q0, q1]) rfl ⟨rfl, hb⟩

set_option maxRecDepth 100000 in
set_option maxHeartbeats 800000 in
theorem r_calc_10 (x y : Nat) (w : World) :
    Calls Tryd.prog 13 #[.int .i64 10, .agg #[.bool true, .int .u64 x], .agg #[.bool true, .int .u64 y]] w fun e w' => e = .returned (.tuple #[.agg #[.bool true, .int .u64 (fo (Fl.F.div x y))], .int .i64 (0)]) ∧ Below w.heap.size w w' := by
  have ex := fun w => frombits_run x w
  have ey := fun w => frombits_run y w
  rw [show (x : Int).toNat = x from rfl] at ex
  rw [show (y : Int).toNat = y from rfl] at ey
  obtain ⟨W0, hW0, hS⟩ := boxes true true x y w
  have HW := Lib.hid hW0; clear hW0
  cases h : Fl.F.div x y with
  | none =>
    have ea := fun w => run_float_none .quo 53 x y w (by simp) h
    rw [show fo none = 9221120237041090560 from rfl]
    clear h
    go_enter Tryd.func13, Tryd.ntmps13
    go_wp2_with fail
    rw [← HW.out]
    clear HW
    obtain ⟨-, s1, c1, c2, c3, c4, c5, c6, z1, z2⟩ := id hS
    go_quiet (fail)
    replace hS := S3.drewN hS nq
    clear c1 c2 c3 c4 c5 c6 z1 z2 ex ey
    generalize W0.drewN nq = W1 at hS ⊢
    obtain ⟨-, s1, c1, c2, c3, c4, c5, c6, z1, z2⟩ := id hS
    go_wp2_with fail
    refine (r_flt_nan _ (nq_parts _ _ _).1 (nq_parts _ _ _).2 _).mono ?_
    rintro e w2 ⟨rfl, hb⟩
    replace hS := S3.below (S3.drew hS) hb
    clear hb c1 c2 c3 c4 c5 c6 z1 z2
    obtain ⟨-, s2, c1, c2, c3, c4, c5, c6, z1, z2⟩ := id hS
    go_wp2_with fail
    obtain ⟨hb, q0, q1⟩ := S3.fin (S3.store hS (.bool true) (.int .u64 9221120237041090560))
    exact bodyPost_ret (v := .tuple #[.agg #[.bool true, .int .u64 9221120237041090560], .int .i64 0]) (by simp [results, Tryd.results13, go_sem, q0, q1]) rfl ⟨rfl, hb⟩
  | some r =>
    have ea := fun w => run_float_arith (P := Tryd.prog) w .quo 53 .f64 x y r h
    obtain ⟨h1, h2⟩ := Fl.div_num h
    have HF := Lib.hid (fun w => r_flt_num r h1 h2 w)
    rw [show fo (some r) = (r : Int) from rfl]
    clear h h1 h2
    go_enter Tryd.func13, Tryd.ntmps13
    go_wp2_with fail
    rw [← HW.out]
    clear HW
    obtain ⟨-, s1, c1, c2, c3, c4, c5, c6, z1, z2⟩ := id hS
    go_quiet (fail)
    replace hS := S3.drewN hS nq
    clear c1 c2 c3 c4 c5 c6 z1 z2 ex ey
    generalize W0.drewN nq = W1 at hS ⊢
    obtain ⟨-, s1, c1, c2, c3, c4, c5, c6, z1, z2⟩ := id hS
    go_wp2_with fail
    refine (HF.out _).mono ?_
    rintro e w2 ⟨rfl, hb⟩
    replace hS := S3.below hS hb
    clear hb c1 c2 c3 c4 c5 c6 z1 z2
    obtain ⟨-, s2, c1, c2, c3, c4, c5, c6, z1, z2⟩ := id hS
    go_wp2_with fail
    obtain ⟨hb, q0, q1⟩ := S3.fin (S3.store hS (.bool true) (.int .u64 (r : Int)))
    exact bodyPost_ret (v := .tuple #[.agg #[.bool true, .int .u64 (r : Int)], .int .i64 0]) (by simp [results, Tryd.results13, go_sem, q0, q1]) rfl ⟨rfl, hb⟩

set_option maxRecDepth 100000 in
set_option maxHeartbeats 800000 in
theorem r_calc_13 (n : Int) (hn : InR n) (g : Bool) (y : Int) (w : World) :
    Calls Tryd.prog 13 #[.int .i64 13, .agg #[.bool false, .int .u64 (U n)], .agg #[.bool g, .int .u64 y]] w fun e w' => e = .returned (.tuple #[.agg #[.bool true, .int .u64 ((floatOfInt .f64 n : Nat) : Int)], .int .i64 (0)]) ∧ Below w.heap.size w w' := by
  have hV : IntKind.i64.wrap (U n) = n := by rw [i64wrap, wrap64_U n hn]
  have HF := Lib.hid (fun w => r_flt_num (floatOfInt .f64 n) (ofInt_num n).1 (ofInt_num n).2 w)
  generalize U n = x at *
  have ex := fun w => frombits_run x w
  have ey := fun w => frombits_run y w
  obtain ⟨W0, hW0, hS⟩ := boxes false g x y w
  have HW := Lib.hid hW0; clear hW0
  go_enter Tryd.func13, Tryd.ntmps13
  go_wp2_with fail
  rw [← HW.out]
  clear HW
  obtain ⟨-, s1, c1, c2, c3, c4, c5, c6, z1, z2⟩ := id hS
  go_quiet (fail)
  replace hS := S3.drewN hS nq
  clear c1 c2 c3 c4 c5 c6 z1 z2 ex ey
  generalize W0.drewN nq = W1 at hS ⊢
  obtain ⟨-, s1, c1, c2, c3, c4, c5, c6, z1, z2⟩ := id hS
  go_wp2_with fail
  refine (HF.out _).mono ?_
  rintro e w2 ⟨rfl, hb⟩
  replace hS := S3.below hS hb
  clear hb c1 c2 c3 c4 c5 c6 z1 z2
  obtain ⟨-, s2, c1, c2, c3, c4, c5, c6, z1, z2⟩ := id hS
  go_wp2_with fail
  obtain ⟨hb, q0, q1⟩ := S3.fin (S3.store hS (.bool true) (.int .u64 ((floatOfInt .f64 n : Nat) : Int)))
  exact bodyPost_ret (v := .tuple #[.agg #[.bool true, .int .u64 ((floatOfInt .f64 n : Nat) : Int)], .int .i64 0]) (by simp [results, Tryd.results13, go_sem, q0, q1]) rfl ⟨rfl, hb⟩

set_option maxRecDepth 100000 in
set_option maxHeartbeats 800000 in
theorem r_calc_14_ok (b : Nat) (hb : b < 18446744073709551616) (g : Bool) (y : Int) (k : Int) (hW : Fl.within b = true) (hk : floatToIntVal .f64 b .i64 = some k) (w : World) :
    Calls Tryd.prog 13 #[.int .i64 14, .agg #[.bool true, .int .u64 b], .agg #[.bool g, .int .u64 y]] w fun e w' => e = .returned (.tuple #[.agg #[.bool false, .int .u64 (U k)], .int .i64 (0)]) ∧ Below w.heap.size w w' := by
  have HF := Lib.hid (fun w => r_trunc_ok b hb w k hW hk)
  clear hW hk hb
  generalize U k = u at *
  have ex := fun w => frombits_run b w
  have ey := fun w => frombits_run y w
  obtain ⟨W0, hW0, hS⟩ := boxes true g b y w
  have HW := Lib.hid hW0; clear hW0
  go_enter Tryd.func13, Tryd.ntmps13
  go_wp2_with fail
  rw [← HW.out]
  clear HW
  obtain ⟨-, s1, c1, c2, c3, c4, c5, c6, z1, z2⟩ := id hS
  go_quiet (fail)
  replace hS := S3.drewN hS nq
  clear c1 c2 c3 c4 c5 c6 z1 z2 ex ey
  generalize W0.drewN nq = W1 at hS ⊢
  obtain ⟨-, s1, c1, c2, c3, c4, c5, c6, z1, z2⟩ := id hS
  go_wp2_with fail
  refine (HF.out _).mono ?_
  rintro e w2 ⟨rfl, hb⟩
  replace hS := S3.below hS hb
  clear hb c1 c2 c3 c4 c5 c6 z1 z2
  obtain ⟨-, s2, c1, c2, c3, c4, c5, c6, z1, z2⟩ := id hS
  go_wp2_with fail
  obtain ⟨hb, q0, q1⟩ := S3.fin (S3.store hS (.bool false) (.int .u64 u))
  exact bodyPost_ret (v := .tuple #[.agg #[.bool false, .int .u64 u], .int .i64 0]) (by simp [results, Tryd.results13, go_sem, q0, q1]) rfl ⟨rfl, hb⟩

set_option maxRecDepth 100000 in
set_option maxHeartbeats 800000 in
theorem r_calc_14_out (b : Nat) (hb : b < 18446744073709551616) (g : Bool) (y : Int) (hW : Fl.within b = false) (w : World) :
    Calls Tryd.prog 13 #[.int .i64 14, .agg #[.bool true, .int .u64 b], .agg #[.bool g, .int .u64 y]] w fun e w' => e = .returned (.tuple #[.agg #[.bool false, .int .u64 0], .int .i64 (1)]) ∧ Below w.heap.size w w' := by
  have HF := Lib.hid (fun w => r_trunc_out b hb w hW)
  clear hW hb
  have ex := fun w => frombits_run b w
  have ey := fun w => frombits_run y w
  obtain ⟨W0, hW0, hS⟩ := boxes true g b y w
  have HW := Lib.hid hW0; clear hW0
  go_enter Tryd.func13, Tryd.ntmps13
  go_wp2_with fail
  rw [← HW.out]
  clear HW
  obtain ⟨-, s1, c1, c2, c3, c4, c5, c6, z1, z2⟩ := id hS
  go_quiet (fail)
  replace hS := S3.drewN hS nq
  clear c1 c2 c3 c4 c5 c6 z1 z2 ex ey
  generalize W0.drewN nq = W1 at hS ⊢
  obtain ⟨-, s1, c1, c2, c3, c4, c5, c6, z1, z2⟩ := id hS
  go_wp2_with fail
  refine (HF.out _).mono ?_
  rintro e w2 ⟨rfl, hb⟩
  replace hS := S3.below hS hb
  clear hb c1 c2 c3 c4 c5 c6 z1 z2
  obtain ⟨-, s2, c1, c2, c3, c4, c5, c6, z1, z2⟩ := id hS
  go_wp2_with fail
  obtain ⟨hb, q0, q1⟩ := S3.fin (S3.store hS (.bool false) (.int .u64 0))
  exact bodyPost_ret (v := .tuple #[.agg #[.bool false, .int .u64 0], .int .i64 1]) (by simp [results, Tryd.results13, go_sem, q0, q1]) rfl ⟨rfl, hb⟩

set_option maxRecDepth 100000 in
set_option maxHeartbeats 800000 in
theorem r_calc_0 (a b : Int)  (w : World) :
    Calls Tryd.prog 13 #[.int .i64 0, .agg #[.bool false, .int .u64 (U a)], .agg #[.bool false, .int .u64 (U b)]] w fun e w' => e = .returned (.tuple #[.agg #[.bool false, .int .u64 (U (wrap64 (a + b)))], .int .i64 (0)]) ∧ Below w.heap.size w w' := by
  have HF := Lib.hid (fun w => r_ints0 a b w)
  generalize U (wrap64 (a + b)) = u at *
  generalize U a = x at *
  generalize U b = y at *
  have ex := fun w => frombits_run x w
  have ey := fun w => frombits_run y w
  obtain ⟨W0, hW0, hS⟩ := boxes false false x y w
  have HW := Lib.hid hW0; clear hW0
  go_enter Tryd.func13, Tryd.ntmps13
  go_wp2_with fail
  rw [← HW.out]
  clear HW
  obtain ⟨-, s1, c1, c2, c3, c4, c5, c6, z1, z2⟩ := id hS
  go_quiet (fail)
  replace hS := S3.drewN hS nq
  clear c1 c2 c3 c4 c5 c6 z1 z2 ex ey
  generalize W0.drewN nq = W1 at hS ⊢
  obtain ⟨-, s1, c1, c2, c3, c4, c5, c6, z1, z2⟩ := id hS
  go_wp2_with fail
  refine (HF.out _).mono ?_
  rintro e w2 ⟨rfl, hb⟩
  replace hS := S3.below hS hb
  clear hb c1 c2 c3 c4 c5 c6 z1 z2
  obtain ⟨-, s2, c1, c2, c3, c4, c5, c6, z1, z2⟩ := id hS
  go_wp2_with fail
  obtain ⟨hb, q0, q1⟩ := S3.fin (S3.store hS (.bool false) (.int .u64 u))
  exact bodyPost_ret (v := .tuple #[.agg #[.bool false, .int .u64 u], .int .i64 0]) (by simp [results, Tryd.results13, go_sem, q0, q1]) rfl ⟨rfl, hb⟩

set_option maxRecDepth 100000 in
set_option maxHeartbeats 800000 in
theorem r_calc_1 (a b : Int)  (w : World) :
    Calls Tryd.prog 13 #[.int .i64 1, .agg #[.bool false, .int .u64 (U a)], .agg #[.bool false, .int .u64 (U b)]] w fun e w' => e = .returned (.tuple #[.agg #[.bool false, .int .u64 (U (wrap64 (a - b)))], .int .i64 (0)]) ∧ Below w.heap.size w w' := by
  have HF := Lib.hid (fun w => r_ints1 a b w)
  generalize U (wrap64 (a - b)) = u at *
  generalize U a = x at *
  generalize U b = y at *
  have ex := fun w => frombits_run x w
  have ey := fun w => frombits_run y w
  obtain ⟨W0, hW0, hS⟩ := boxes false false x y w
  have HW := Lib.hid hW0; clear hW0
  go_enter Tryd.func13, Tryd.ntmps13
  go_wp2_with fail
  rw [← HW.out]
  clear HW
  obtain ⟨-, s1, c1, c2, c3, c4, c5, c6, z1, z2⟩ := id hS
  go_quiet (fail)
  replace hS := S3.drewN hS nq
  clear c1 c2 c3 c4 c5 c6 z1 z2 ex ey
  generalize W0.drewN nq = W1 at hS ⊢
  obtain ⟨-, s1, c1, c2, c3, c4, c5, c6, z1, z2⟩ := id hS
  go_wp2_with fail
  refine (HF.out _).mono ?_
  rintro e w2 ⟨rfl, hb⟩
  replace hS := S3.below hS hb
  clear hb c1 c2 c3 c4 c5 c6 z1 z2
  obtain ⟨-, s2, c1, c2, c3, c4, c5, c6, z1, z2⟩ := id hS
  go_wp2_with fail
  obtain ⟨hb, q0, q1⟩ := S3.fin (S3.store hS (.bool false) (.int .u64 u))
  exact bodyPost_ret (v := .tuple #[.agg #[.bool false, .int .u64 u], .int .i64 0]) (by simp [results, Tryd.results13, go_sem, q0, q1]) rfl ⟨rfl, hb⟩

set_option maxRecDepth 100000 in
set_option maxHeartbeats 800000 in
theorem r_calc_2 (a b : Int)  (w : World) :
    Calls Tryd.prog 13 #[.int .i64 2, .agg #[.bool false, .int .u64 (U a)], .agg #[.bool false, .int .u64 (U b)]] w fun e w' => e = .returned (.tuple #[.agg #[.bool false, .int .u64 (U (wrap64 (a * b)))], .int .i64 (0)]) ∧ Below w.heap.size w w' := by
  have HF := Lib.hid (fun w => r_ints2 a b w)
  generalize U (wrap64 (a * b)) = u at *
  generalize U a = x at *
  generalize U b = y at *
  have ex := fun w => frombits_run x w
  have ey := fun w => frombits_run y w
  obtain ⟨W0, hW0, hS⟩ := boxes false false x y w
  have HW := Lib.hid hW0; clear hW0
  go_enter Tryd.func13, Tryd.ntmps13
  go_wp2_with fail
  rw [← HW.out]
  clear HW
  obtain ⟨-, s1, c1, c2, c3, c4, c5, c6, z1, z2⟩ := id hS
  go_quiet (fail)
  replace hS := S3.drewN hS nq
  clear c1 c2 c3 c4 c5 c6 z1 z2 ex ey
  generalize W0.drewN nq = W1 at hS ⊢
  obtain ⟨-, s1, c1, c2, c3, c4, c5, c6, z1, z2⟩ := id hS
  go_wp2_with fail
  refine (HF.out _).mono ?_
  rintro e w2 ⟨rfl, hb⟩
  replace hS := S3.below hS hb
  clear hb c1 c2 c3 c4 c5 c6 z1 z2
  obtain ⟨-, s2, c1, c2, c3, c4, c5, c6, z1, z2⟩ := id hS
  go_wp2_with fail
  obtain ⟨hb, q0, q1⟩ := S3.fin (S3.store hS (.bool false) (.int .u64 u))
  exact bodyPost_ret (v := .tuple #[.agg #[.bool false, .int .u64 u], .int .i64 0]) (by simp [results, Tryd.results13, go_sem, q0, q1]) rfl ⟨rfl, hb⟩

set_option maxRecDepth 100000 in
set_option maxHeartbeats 800000 in
theorem r_calc_3_bad (a b : Int) (ha : InR a) (hb : InR b) (hd : dv a b ≠ 0) (w : World) :
    Calls Tryd.prog 13 #[.int .i64 3, .agg #[.bool false, .int .u64 (U a)], .agg #[.bool false, .int .u64 (U b)]] w fun e w' => e = .returned (.tuple #[.agg #[.bool false, .int .u64 (0)], .int .i64 ((dv a b))]) ∧ Below w.heap.size w w' := by
  have HF := Lib.hid (fun w => r_ints3_bad a b w ha hb hd)
  generalize dv a b = er at *
  clear ha hb
  clear hd
  generalize U a = x at *
  generalize U b = y at *
  have ex := fun w => frombits_run x w
  have ey := fun w => frombits_run y w
  obtain ⟨W0, hW0, hS⟩ := boxes false false x y w
  have HW := Lib.hid hW0; clear hW0
  go_enter Tryd.func13, Tryd.ntmps13
  go_wp2_with fail
  rw [← HW.out]
  clear HW
  obtain ⟨-, s1, c1, c2, c3, c4, c5, c6, z1, z2⟩ := id hS
  go_quiet (fail)
  replace hS := S3.drewN hS nq
  clear c1 c2 c3 c4 c5 c6 z1 z2 ex ey
  generalize W0.drewN nq = W1 at hS ⊢
  obtain ⟨-, s1, c1, c2, c3, c4, c5, c6, z1, z2⟩ := id hS
  go_wp2_with fail
  refine (HF.out _).mono ?_
  rintro e w2 ⟨rfl, hb⟩
  replace hS := S3.below hS hb
  clear hb c1 c2 c3 c4 c5 c6 z1 z2
  obtain ⟨-, s2, c1, c2, c3, c4, c5, c6, z1, z2⟩ := id hS
  go_wp2_with fail
  obtain ⟨hb, q0, q1⟩ := S3.fin (S3.store hS (.bool false) (.int .u64 0))
  exact bodyPost_ret (v := .tuple #[.agg #[.bool false, .int .u64 0], .int .i64 er]) (by simp [results, Tryd.results13, go_sem, q0, q1]) rfl ⟨rfl, hb⟩

set_option maxRecDepth 100000 in
set_option maxHeartbeats 800000 in
theorem r_calc_3_ok (a b : Int) (ha : InR a) (hb : InR b) (hd : dv a b = 0) (h0 : b ≠ 0) (w : World) :
    Calls Tryd.prog 13 #[.int .i64 3, .agg #[.bool false, .int .u64 (U a)], .agg #[.bool false, .int .u64 (U b)]] w fun e w' => e = .returned (.tuple #[.agg #[.bool false, .int .u64 (U (wrap64 (a.tdiv b)))], .int .i64 (0)]) ∧ Below w.heap.size w w' := by
  have HF := Lib.hid (fun w => r_ints3_ok a b w ha hb hd h0)
  generalize U (wrap64 (a.tdiv b)) = u at *
  clear ha hb
  clear hd
  clear h0
  generalize U a = x at *
  generalize U b = y at *
  have ex := fun w => frombits_run x w
  have ey := fun w => frombits_run y w
  obtain ⟨W0, hW0, hS⟩ := boxes false false x y w
  have HW := Lib.hid hW0; clear hW0
  go_enter Tryd.func13, Tryd.ntmps13
  go_wp2_with fail
  rw [← HW.out]
  clear HW
  obtain ⟨-, s1, c1, c2, c3, c4, c5, c6, z1, z2⟩ := id hS
  go_quiet (fail)
  replace hS := S3.drewN hS nq
  clear c1 c2 c3 c4 c5 c6 z1 z2 ex ey
  generalize W0.drewN nq = W1 at hS ⊢
  obtain ⟨-, s1, c1, c2, c3, c4, c5, c6, z1, z2⟩ := id hS
  go_wp2_with fail
  refine (HF.out _).mono ?_
  rintro e w2 ⟨rfl, hb⟩
  replace hS := S3.below hS hb
  clear hb c1 c2 c3 c4 c5 c6 z1 z2
  obtain ⟨-, s2, c1, c2, c3, c4, c5, c6, z1, z2⟩ := id hS
  go_wp2_with fail
  obtain ⟨hb, q0, q1⟩ := S3.fin (S3.store hS (.bool false) (.int .u64 u))
  exact bodyPost_ret (v := .tuple #[.agg #[.bool false, .int .u64 u], .int .i64 0]) (by simp [results, Tryd.results13, go_sem, q0, q1]) rfl ⟨rfl, hb⟩

set_option maxRecDepth 100000 in
set_option maxHeartbeats 800000 in
theorem r_calc_4_bad (a b : Int) (ha : InR a) (hb : InR b) (hd : dv a b ≠ 0) (w : World) :
    Calls Tryd.prog 13 #[.int .i64 4, .agg #[.bool false, .int .u64 (U a)], .agg #[.bool false, .int .u64 (U b)]] w fun e w' => e = .returned (.tuple #[.agg #[.bool false, .int .u64 (0)], .int .i64 ((dv a b))]) ∧ Below w.heap.size w w' := by
  have HF := Lib.hid (fun w => r_ints4_bad a b w ha hb hd)
  generalize dv a b = er at *
  clear ha hb
  clear hd
  generalize U a = x at *
  generalize U b = y at *
  have ex := fun w => frombits_run x w
  have ey := fun w => frombits_run y w
  obtain ⟨W0, hW0, hS⟩ := boxes false false x y w
  have HW := Lib.hid hW0; clear hW0
  go_enter Tryd.func13, Tryd.ntmps13
  go_wp2_with fail
  rw [← HW.out]
  clear HW
  obtain ⟨-, s1, c1, c2, c3, c4, c5, c6, z1, z2⟩ := id hS
  go_quiet (fail)
  replace hS := S3.drewN hS nq
  clear c1 c2 c3 c4 c5 c6 z1 z2 ex ey
  generalize W0.drewN nq = W1 at hS ⊢
  obtain ⟨-, s1, c1, c2, c3, c4, c5, c6, z1, z2⟩ := id hS
  go_wp2_with fail
  refine (HF.out _).mono ?_
  rintro e w2 ⟨rfl, hb⟩
  replace hS := S3.below hS hb
  clear hb c1 c2 c3 c4 c5 c6 z1 z2
  obtain ⟨-, s2, c1, c2, c3, c4, c5, c6, z1, z2⟩ := id hS
  go_wp2_with fail
  obtain ⟨hb, q0, q1⟩ := S3.fin (S3.store hS (.bool false) (.int .u64 0))
  exact bodyPost_ret (v := .tuple #[.agg #[.bool false, .int .u64 0], .int .i64 er]) (by simp [results, Tryd.results13, go_sem, q0, q1]) rfl ⟨rfl, hb⟩

set_option maxRecDepth 100000 in
set_option maxHeartbeats 800000 in
theorem r_calc_4_ok (a b : Int) (ha : InR a) (hb : InR b) (hd : dv a b = 0) (h0 : b ≠ 0) (w : World) :
    Calls Tryd.prog 13 #[.int .i64 4, .agg #[.bool false, .int .u64 (U a)], .agg #[.bool false, .int .u64 (U b)]] w fun e w' => e = .returned (.tuple #[.agg #[.bool false, .int .u64 (U (a.tmod b))], .int .i64 (0)]) ∧ Below w.heap.size w w' := by
  have HF := Lib.hid (fun w => r_ints4_ok a b w ha hb hd h0)
  generalize U (a.tmod b) = u at *
  clear ha hb
  clear hd
  clear h0
  generalize U a = x at *
  generalize U b = y at *
  have ex := fun w => frombits_run x w
  have ey := fun w => frombits_run y w
  obtain ⟨W0, hW0, hS⟩ := boxes false false x y w
  have HW := Lib.hid hW0; clear hW0
  go_enter Tryd.func13, Tryd.ntmps13
  go_wp2_with fail
  rw [← HW.out]
  clear HW
  obtain ⟨-, s1, c1, c2, c3, c4, c5, c6, z1, z2⟩ := id hS
  go_quiet (fail)
  replace hS := S3.drewN hS nq
  clear c1 c2 c3 c4 c5 c6 z1 z2 ex ey
  generalize W0.drewN nq = W1 at hS ⊢
  obtain ⟨-, s1, c1, c2, c3, c4, c5, c6, z1, z2⟩ := id hS
  go_wp2_with fail
  refine (HF.out _).mono ?_
  rintro e w2 ⟨rfl, hb⟩
  replace hS := S3.below hS hb
  clear hb c1 c2 c3 c4 c5 c6 z1 z2
  obtain ⟨-, s2, c1, c2, c3, c4, c5, c6, z1, z2⟩ := id hS
  go_wp2_with fail
  obtain ⟨hb, q0, q1⟩ := S3.fin (S3.store hS (.bool false) (.int .u64 u))
  exact bodyPost_ret (v := .tuple #[.agg #[.bool false, .int .u64 u], .int .i64 0]) (by simp [results, Tryd.results13, go_sem, q0, q1]) rfl ⟨rfl, hb⟩

set_option maxRecDepth 100000 in
set_option maxHeartbeats 800000 in
theorem r_calc_kind (op : Int) (f g : Bool) (x y : Int) (h : op = 0 ∨ op = 1 ∨ op = 2 ∨ op = 3 ∨ op = 4 ∨ op = 7 ∨ op = 8 ∨ op = 9 ∨ op = 10) (hk : kindB f g op = false) (w : World) :
    Calls Tryd.prog 13 #[.int .i64 op, .agg #[.bool f, .int .u64 x], .agg #[.bool g, .int .u64 y]] w fun e w' => e = .returned (.tuple #[.agg #[.bool false, .int .u64 0], .int .i64 (6)]) ∧ Below w.heap.size w w' := by
  have hB := Below.refl w.heap.size w
  rcases h with rfl | rfl | rfl | rfl | rfl | rfl | rfl | rfl | rfl
  all_goals
    cases f <;> cases g <;> first | (exfalso; revert hk; decide) | skip
  all_goals
    clear hk
    go_enter Tryd.func13, Tryd.ntmps13
    go_wp2_with fail
    exact bodyPost_ret (v := .tuple #[.agg #[.bool false, .int .u64 0], .int .i64 6]) (by simp [results, Tryd.results13, go_sem]) rfl ⟨rfl, ((hB.alloc hB.size _).alloc (by simp) _).alloc (by simp; omega) _⟩

set_option maxRecDepth 100000 in
set_option maxHeartbeats 800000 in
theorem r_calc_kind1 (op : Int) (f g : Bool) (x y : Int) (h : op = 13 ∧ f = true ∨ op = 14 ∧ f = false) (w : World) :
    Calls Tryd.prog 13 #[.int .i64 op, .agg #[.bool f, .int .u64 x], .agg #[.bool g, .int .u64 y]] w fun e w' => e = .returned (.tuple #[.agg #[.bool false, .int .u64 0], .int .i64 (6)]) ∧ Below w.heap.size w w' := by
  have hB := Below.refl w.heap.size w
  rcases h with ⟨rfl, rfl⟩ | ⟨rfl, rfl⟩
  all_goals
    go_enter Tryd.func13, Tryd.ntmps13
    go_wp2_with fail
    exact bodyPost_ret (v := .tuple #[.agg #[.bool false, .int .u64 0], .int .i64 6]) (by simp [results, Tryd.results13, go_sem]) rfl ⟨rfl, ((hB.alloc hB.size _).alloc (by simp) _).alloc (by simp; omega) _⟩

end Go.Proofs.YtkmickgngijdlaaDoor
