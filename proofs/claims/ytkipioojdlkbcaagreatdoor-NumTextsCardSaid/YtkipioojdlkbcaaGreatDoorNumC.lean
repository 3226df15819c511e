/- Contracts of the number layer's operations: divisions, floats, conversions, and the questions. -/
import Derived.Test.YtkipioojdlkbcaaGreatDoorNumB
import Derived.Test.YtkipioojdlkbcaaGreatDoorFloat
import Derived.Laws.FloatArith
namespace Go.Proofs.YtkipioojdlkbcaaGreatDoor
open Go.RowKit

theorem ret_int {k : IntKind} {a b : Int} (h : a = b) : Ending.returned (.int k a) = .returned (.int k b) := by rw [h]

/-- What a division by b, of a, lacks: by its error's number. -/
def dv (a b : Int) : Int := if b = 0 then 7 else if a = -9223372036854775808 ∧ b = -1 then 8 else 0

set_option maxHeartbeats 400000 in
theorem divides_any (a b : Int) (w : World) :
    Calls Tryz.prog 41 #[.int .i64 a, .int .i64 b] w fun e w' => e = .returned (.int .i64 (dv a b)) ∧ Below w.heap.size w w' := by
  go_enter Tryz.func41, Tryz.ntmps41
  go_wp2
  all_goals go_ret
  all_goals (refine ⟨ret_int ?_, Below.refl _ _⟩; unfold dv; simp_all)

/-- The one that is none, by its bits. -/
def NONE : Nat := 9221120237041090560

/-- Bits as they come out: of one that is none the one pattern. -/
def cn (n : Nat) : Nat := if (FloatKind.f64.format.order n n != some .eq) = true then NONE else n

/-- What an operation on floats comes to: the word, or the one that is none. -/
def fl (o : Option Nat) : Nat := match o with | some r => cn r | none => NONE

/-- The bits of none that the tape hands out. -/
def nq (w : World) (x y : Nat) : Nat := (Question.nanBits .f64 x y).cut (w.tape w.drawn (Question.nanBits .f64 x y))

theorem nq_nan (w : World) (x y : Nat) : (FloatKind.f64.format.order (nq w x y) (nq w x y) != some .eq) = true := by
  have h : FloatKind.f64.format.order (nq w x y) (nq w x y) = none := by
    refine Fl.order_nan_left _ _ ?_
    unfold nq
    simp only [Question.cut]
    generalize w.tape w.drawn _ = t
    have ha : t % 2 < 2 := by omega
    have hb : t / 2 % (2 ^ 52 - 1) < 2 ^ 52 - 1 := Nat.mod_lt _ (by decide)
    generalize t % 2 = a at ha ⊢
    generalize t / 2 % (2 ^ 52 - 1) = b at hb ⊢
    omega
  rw [h]; rfl

set_option maxHeartbeats 400000 in
theorem ofFloat_nan (n : Nat) (w : World) (h : (FloatKind.f64.format.order n n != some .eq) = true) :
    Calls Tryz.prog 44 #[.float .f64 n] w fun e w' => e = .returned (.agg #[.bool true, .int .u64 9221120237041090560]) ∧ Below w.heap.size w w' := by
  go_enter Tryz.func44, Tryz.ntmps44
  go_wp2
  exact bodyPost_ret (v := .agg #[.bool true, .int .u64 9221120237041090560]) (by simp [results, Tryz.results44, go_sem]) rfl ⟨rfl, (Below.refl _ _).alloc (Nat.le_refl _) _⟩

set_option maxHeartbeats 400000 in
theorem ofFloat_num (n : Nat) (w : World) (h : (FloatKind.f64.format.order n n != some .eq) = false) :
    Calls Tryz.prog 44 #[.float .f64 n] w fun e w' => e = .returned (.agg #[.bool true, .int .u64 n]) ∧ Below w.heap.size w w' := by
  have e52 := fun w => bits_run n w
  go_enter Tryz.func44, Tryz.ntmps44
  go_wp2
  exact bodyPost_ret (v := .agg #[.bool true, .int .u64 n]) (by simp [results, Tryz.results44, go_sem]) rfl ⟨rfl, (Below.refl _ _).alloc (Nat.le_refl _) _⟩

theorem ofFloat_any (n : Nat) (w : World) :
    Calls Tryz.prog 44 #[.float .f64 n] w fun e w' => e = .returned (.agg #[.bool true, .int .u64 (cn n : Nat)]) ∧ Below w.heap.size w w' := by
  cases h : (FloatKind.f64.format.order n n != some .eq)
  · have e : cn n = n := by unfold cn; rw [if_neg (by rw [h]; decide)]
    rw [e]; exact ofFloat_num n w h
  · have e : cn n = NONE := by unfold cn; rw [if_pos h]
    rw [e]; exact ofFloat_nan n w h

theorem run_float_none (op : BinOp) (t : TypeId) (x y : Nat) (w : World) (ho : op = .add ∨ op = .sub ∨ op = .mul ∨ op = .quo) (h : floatBits op .f64 x y = none) :
    (binOp op t (.float .f64 x) (.float .f64 y)).run Tryz.prog w = .ok (.float .f64 (nq w x y)) w.drew := by
  unfold floatBits at h
  rcases ho with rfl | rfl | rfl | rfl <;> simp only at h
  all_goals
    simp [binOp, Op.floatArith, h, Question.forced, nq]

set_option maxHeartbeats 1000000 in
theorem div_bad (f g : Bool) (x y : Int) (w : World)
    (h : (dv (wrap64 x) (wrap64 y) != 0) = true) :
    Calls Tryz.prog 40 #[.agg #[.bool f, .int .u64 x], .agg #[.bool g, .int .u64 y]] w fun e w' =>
      e = .returned (.tuple #[.agg #[.bool false, .int .u64 (0)], .int .i64 (dv (wrap64 x) (wrap64 y))]) ∧ Below w.heap.size w w' := by
  obtain ⟨W0, hW0, hB0, hs0, c1, c2, c3, c4, c5, c6, z1, z2⟩ := boxes f g x y w
  have HW := Lib.hid hW0; clear hW0
  go_enter Tryz.func40, Tryz.ntmps40
  go_wp2_with fail
  rw [← HW.out]
  clear HW
  go_region_held3 (fun w' => Below w.heap.size w w' ∧ w.heap.size + 3 ≤ w'.heap.size ∧
      w'.cell? ⟨w.heap.size, 0, none⟩ = some (.bool f) ∧ w'.cell? ⟨w.heap.size, 1, none⟩ = some (.int .u64 x) ∧
      w'.cell? ⟨w.heap.size + 1, 0, none⟩ = some (.bool g) ∧ w'.cell? ⟨w.heap.size + 1, 1, none⟩ = some (.int .u64 y) ∧
      w'.cell? ⟨w.heap.size + 1 + 1, 0, none⟩ = some (cellv w' ⟨w.heap.size + 1 + 1, 0, none⟩) ∧ w'.cell? ⟨w.heap.size + 1 + 1, 1, none⟩ = some (cellv w' ⟨w.heap.size + 1 + 1, 1, none⟩) ∧
      w'.frozen? ⟨w.heap.size + 1 + 1, 0, none⟩ = false ∧ w'.frozen? ⟨w.heap.size + 1 + 1, 1, none⟩ = false)
    (first
      | exact S3.below (by assumption) hb
      | exact S3.store (by assumption) _ _
      | exact S3.drew (by assumption)
      | exact S3.drew ⟨by assumption, by assumption, by assumption, by assumption, by assumption, by assumption, by assumption, by assumption, by assumption, by assumption⟩)
    (first
      | (go_at_call 18; refine (toInt_any _ _ _).mono ?_; rintro e w' ⟨rfl, hb⟩)
      | (go_at_call 41; refine (divides_any _ _ _).mono ?_; rintro e w' ⟨rfl, hb⟩)
      | (go_at_call 11; refine (int_any _ _).mono ?_; rintro e w' ⟨rfl, hb⟩))
  go_wp2
  obtain ⟨hb, r0, r1⟩ := S3.fin (f := f) (g := g) (x := x) (y := y) (S3.store (by assumption) (.bool false) (.int .u64 0))
  exact bodyPost_ret (v := .tuple #[.agg #[.bool false, .int .u64 (0)], .int .i64 (dv (wrap64 x) (wrap64 y))]) (by simp [results, Tryz.results40, go_sem, r0, r1]) rfl ⟨rfl, hb⟩

set_option maxHeartbeats 1000000 in
theorem div_ok (f g : Bool) (x y : Int) (w : World)
    (h : (dv (wrap64 x) (wrap64 y) != 0) = false) (hy : ¬ wrap64 y = 0) :
    Calls Tryz.prog 40 #[.agg #[.bool f, .int .u64 x], .agg #[.bool g, .int .u64 y]] w fun e w' =>
      e = .returned (.tuple #[.agg #[.bool false, .int .u64 (IntKind.u64.wrap (IntKind.i64.wrap ((wrap64 x).tdiv (wrap64 y))))], .int .i64 (0)]) ∧ Below w.heap.size w w' := by
  obtain ⟨W0, hW0, hB0, hs0, c1, c2, c3, c4, c5, c6, z1, z2⟩ := boxes f g x y w
  have HW := Lib.hid hW0; clear hW0
  go_enter Tryz.func40, Tryz.ntmps40
  go_wp2_with fail
  rw [← HW.out]
  clear HW
  go_region_held3 (fun w' => Below w.heap.size w w' ∧ w.heap.size + 3 ≤ w'.heap.size ∧
      w'.cell? ⟨w.heap.size, 0, none⟩ = some (.bool f) ∧ w'.cell? ⟨w.heap.size, 1, none⟩ = some (.int .u64 x) ∧
      w'.cell? ⟨w.heap.size + 1, 0, none⟩ = some (.bool g) ∧ w'.cell? ⟨w.heap.size + 1, 1, none⟩ = some (.int .u64 y) ∧
      w'.cell? ⟨w.heap.size + 1 + 1, 0, none⟩ = some (cellv w' ⟨w.heap.size + 1 + 1, 0, none⟩) ∧ w'.cell? ⟨w.heap.size + 1 + 1, 1, none⟩ = some (cellv w' ⟨w.heap.size + 1 + 1, 1, none⟩) ∧
      w'.frozen? ⟨w.heap.size + 1 + 1, 0, none⟩ = false ∧ w'.frozen? ⟨w.heap.size + 1 + 1, 1, none⟩ = false)
    (first
      | exact S3.below (by assumption) hb
      | exact S3.store (by assumption) _ _
      | exact S3.drew (by assumption)
      | exact S3.drew ⟨by assumption, by assumption, by assumption, by assumption, by assumption, by assumption, by assumption, by assumption, by assumption, by assumption⟩)
    (first
      | (go_at_call 18; refine (toInt_any _ _ _).mono ?_; rintro e w' ⟨rfl, hb⟩)
      | (go_at_call 41; refine (divides_any _ _ _).mono ?_; rintro e w' ⟨rfl, hb⟩)
      | (go_at_call 11; refine (int_any _ _).mono ?_; rintro e w' ⟨rfl, hb⟩))
  go_wp2_with fail
  go_region_held3 (fun w' => Below w.heap.size w w' ∧ w.heap.size + 3 ≤ w'.heap.size ∧
      w'.cell? ⟨w.heap.size, 0, none⟩ = some (.bool f) ∧ w'.cell? ⟨w.heap.size, 1, none⟩ = some (.int .u64 x) ∧
      w'.cell? ⟨w.heap.size + 1, 0, none⟩ = some (.bool g) ∧ w'.cell? ⟨w.heap.size + 1, 1, none⟩ = some (.int .u64 y) ∧
      w'.cell? ⟨w.heap.size + 1 + 1, 0, none⟩ = some (cellv w' ⟨w.heap.size + 1 + 1, 0, none⟩) ∧ w'.cell? ⟨w.heap.size + 1 + 1, 1, none⟩ = some (cellv w' ⟨w.heap.size + 1 + 1, 1, none⟩) ∧
      w'.frozen? ⟨w.heap.size + 1 + 1, 0, none⟩ = false ∧ w'.frozen? ⟨w.heap.size + 1 + 1, 1, none⟩ = false)
    (first
      | exact S3.below (by assumption) hb
      | exact S3.store (by assumption) _ _
      | exact S3.drew (by assumption)
      | exact S3.drew ⟨by assumption, by assumption, by assumption, by assumption, by assumption, by assumption, by assumption, by assumption, by assumption, by assumption⟩)
    (first
      | (go_at_call 18; refine (toInt_any _ _ _).mono ?_; rintro e w' ⟨rfl, hb⟩)
      | (go_at_call 41; refine (divides_any _ _ _).mono ?_; rintro e w' ⟨rfl, hb⟩)
      | (go_at_call 11; refine (int_any _ _).mono ?_; rintro e w' ⟨rfl, hb⟩))
  go_wp2
  obtain ⟨hb, r0, r1⟩ := S3.fin (f := f) (g := g) (x := x) (y := y) (by assumption)
  exact bodyPost_ret (v := .tuple #[.agg #[.bool false, .int .u64 (IntKind.u64.wrap (IntKind.i64.wrap ((wrap64 x).tdiv (wrap64 y))))], .int .i64 (0)]) (by simp [results, Tryz.results40, go_sem, r0, r1]) rfl ⟨rfl, hb⟩

set_option maxHeartbeats 1000000 in
theorem rem_bad (f g : Bool) (x y : Int) (w : World)
    (h : (dv (wrap64 x) (wrap64 y) != 0) = true) :
    Calls Tryz.prog 42 #[.agg #[.bool f, .int .u64 x], .agg #[.bool g, .int .u64 y]] w fun e w' =>
      e = .returned (.tuple #[.agg #[.bool false, .int .u64 (0)], .int .i64 (dv (wrap64 x) (wrap64 y))]) ∧ Below w.heap.size w w' := by
  obtain ⟨W0, hW0, hB0, hs0, c1, c2, c3, c4, c5, c6, z1, z2⟩ := boxes f g x y w
  have HW := Lib.hid hW0; clear hW0
  go_enter Tryz.func42, Tryz.ntmps42
  go_wp2_with fail
  rw [← HW.out]
  clear HW
  go_region_held3 (fun w' => Below w.heap.size w w' ∧ w.heap.size + 3 ≤ w'.heap.size ∧
      w'.cell? ⟨w.heap.size, 0, none⟩ = some (.bool f) ∧ w'.cell? ⟨w.heap.size, 1, none⟩ = some (.int .u64 x) ∧
      w'.cell? ⟨w.heap.size + 1, 0, none⟩ = some (.bool g) ∧ w'.cell? ⟨w.heap.size + 1, 1, none⟩ = some (.int .u64 y) ∧
      w'.cell? ⟨w.heap.size + 1 + 1, 0, none⟩ = some (cellv w' ⟨w.heap.size + 1 + 1, 0, none⟩) ∧ w'.cell? ⟨w.heap.size + 1 + 1, 1, none⟩ = some (cellv w' ⟨w.heap.size + 1 + 1, 1, none⟩) ∧
      w'.frozen? ⟨w.heap.size + 1 + 1, 0, none⟩ = false ∧ w'.frozen? ⟨w.heap.size + 1 + 1, 1, none⟩ = false)
    (first
      | exact S3.below (by assumption) hb
      | exact S3.store (by assumption) _ _
      | exact S3.drew (by assumption)
      | exact S3.drew ⟨by assumption, by assumption, by assumption, by assumption, by assumption, by assumption, by assumption, by assumption, by assumption, by assumption⟩)
    (first
      | (go_at_call 18; refine (toInt_any _ _ _).mono ?_; rintro e w' ⟨rfl, hb⟩)
      | (go_at_call 41; refine (divides_any _ _ _).mono ?_; rintro e w' ⟨rfl, hb⟩)
      | (go_at_call 11; refine (int_any _ _).mono ?_; rintro e w' ⟨rfl, hb⟩))
  go_wp2
  obtain ⟨hb, r0, r1⟩ := S3.fin (f := f) (g := g) (x := x) (y := y) (S3.store (by assumption) (.bool false) (.int .u64 0))
  exact bodyPost_ret (v := .tuple #[.agg #[.bool false, .int .u64 (0)], .int .i64 (dv (wrap64 x) (wrap64 y))]) (by simp [results, Tryz.results42, go_sem, r0, r1]) rfl ⟨rfl, hb⟩

set_option maxHeartbeats 1000000 in
theorem rem_ok (f g : Bool) (x y : Int) (w : World)
    (h : (dv (wrap64 x) (wrap64 y) != 0) = false) (hy : ¬ wrap64 y = 0) :
    Calls Tryz.prog 42 #[.agg #[.bool f, .int .u64 x], .agg #[.bool g, .int .u64 y]] w fun e w' =>
      e = .returned (.tuple #[.agg #[.bool false, .int .u64 (IntKind.u64.wrap ((wrap64 x).tmod (wrap64 y)))], .int .i64 (0)]) ∧ Below w.heap.size w w' := by
  obtain ⟨W0, hW0, hB0, hs0, c1, c2, c3, c4, c5, c6, z1, z2⟩ := boxes f g x y w
  have HW := Lib.hid hW0; clear hW0
  go_enter Tryz.func42, Tryz.ntmps42
  go_wp2_with fail
  rw [← HW.out]
  clear HW
  go_region_held3 (fun w' => Below w.heap.size w w' ∧ w.heap.size + 3 ≤ w'.heap.size ∧
      w'.cell? ⟨w.heap.size, 0, none⟩ = some (.bool f) ∧ w'.cell? ⟨w.heap.size, 1, none⟩ = some (.int .u64 x) ∧
      w'.cell? ⟨w.heap.size + 1, 0, none⟩ = some (.bool g) ∧ w'.cell? ⟨w.heap.size + 1, 1, none⟩ = some (.int .u64 y) ∧
      w'.cell? ⟨w.heap.size + 1 + 1, 0, none⟩ = some (cellv w' ⟨w.heap.size + 1 + 1, 0, none⟩) ∧ w'.cell? ⟨w.heap.size + 1 + 1, 1, none⟩ = some (cellv w' ⟨w.heap.size + 1 + 1, 1, none⟩) ∧
      w'.frozen? ⟨w.heap.size + 1 + 1, 0, none⟩ = false ∧ w'.frozen? ⟨w.heap.size + 1 + 1, 1, none⟩ = false)
    (first
      | exact S3.below (by assumption) hb
      | exact S3.store (by assumption) _ _
      | exact S3.drew (by assumption)
      | exact S3.drew ⟨by assumption, by assumption, by assumption, by assumption, by assumption, by assumption, by assumption, by assumption, by assumption, by assumption⟩)
    (first
      | (go_at_call 18; refine (toInt_any _ _ _).mono ?_; rintro e w' ⟨rfl, hb⟩)
      | (go_at_call 41; refine (divides_any _ _ _).mono ?_; rintro e w' ⟨rfl, hb⟩)
      | (go_at_call 11; refine (int_any _ _).mono ?_; rintro e w' ⟨rfl, hb⟩))
  go_wp2_with fail
  go_region_held3 (fun w' => Below w.heap.size w w' ∧ w.heap.size + 3 ≤ w'.heap.size ∧
      w'.cell? ⟨w.heap.size, 0, none⟩ = some (.bool f) ∧ w'.cell? ⟨w.heap.size, 1, none⟩ = some (.int .u64 x) ∧
      w'.cell? ⟨w.heap.size + 1, 0, none⟩ = some (.bool g) ∧ w'.cell? ⟨w.heap.size + 1, 1, none⟩ = some (.int .u64 y) ∧
      w'.cell? ⟨w.heap.size + 1 + 1, 0, none⟩ = some (cellv w' ⟨w.heap.size + 1 + 1, 0, none⟩) ∧ w'.cell? ⟨w.heap.size + 1 + 1, 1, none⟩ = some (cellv w' ⟨w.heap.size + 1 + 1, 1, none⟩) ∧
      w'.frozen? ⟨w.heap.size + 1 + 1, 0, none⟩ = false ∧ w'.frozen? ⟨w.heap.size + 1 + 1, 1, none⟩ = false)
    (first
      | exact S3.below (by assumption) hb
      | exact S3.store (by assumption) _ _
      | exact S3.drew (by assumption)
      | exact S3.drew ⟨by assumption, by assumption, by assumption, by assumption, by assumption, by assumption, by assumption, by assumption, by assumption, by assumption⟩)
    (first
      | (go_at_call 18; refine (toInt_any _ _ _).mono ?_; rintro e w' ⟨rfl, hb⟩)
      | (go_at_call 41; refine (divides_any _ _ _).mono ?_; rintro e w' ⟨rfl, hb⟩)
      | (go_at_call 11; refine (int_any _ _).mono ?_; rintro e w' ⟨rfl, hb⟩))
  go_wp2
  obtain ⟨hb, r0, r1⟩ := S3.fin (f := f) (g := g) (x := x) (y := y) (by assumption)
  exact bodyPost_ret (v := .tuple #[.agg #[.bool false, .int .u64 (IntKind.u64.wrap ((wrap64 x).tmod (wrap64 y)))], .int .i64 (0)]) (by simp [results, Tryz.results42, go_sem, r0, r1]) rfl ⟨rfl, hb⟩

set_option maxHeartbeats 1000000 in
theorem fadd_num (f g : Bool) (x y : Int) (w : World)
    (r : Nat) (hr : floatBits .add .f64 x.toNat y.toNat = some r) :
    Calls Tryz.prog 43 #[.agg #[.bool f, .int .u64 x], .agg #[.bool g, .int .u64 y]] w fun e w' =>
      e = .returned (.tuple #[.agg #[.bool true, .int .u64 ((cn r : Nat))], .int .i64 (0)]) ∧ Below w.heap.size w w' := by
  obtain ⟨W0, hW0, hB0, hs0, c1, c2, c3, c4, c5, c6, z1, z2⟩ := boxes f g x y w
  have HW := Lib.hid hW0; clear hW0
  have ea := fun w => run_float_arith (P := Tryz.prog) w .add 71 .f64 x.toNat y.toNat r hr
  clear hr
  go_enter Tryz.func43, Tryz.ntmps43
  go_wp2_with fail
  rw [← HW.out]
  clear HW
  go_region_held3 (fun w' => Below w.heap.size w w' ∧ w.heap.size + 3 ≤ w'.heap.size ∧
      w'.cell? ⟨w.heap.size, 0, none⟩ = some (.bool f) ∧ w'.cell? ⟨w.heap.size, 1, none⟩ = some (.int .u64 x) ∧
      w'.cell? ⟨w.heap.size + 1, 0, none⟩ = some (.bool g) ∧ w'.cell? ⟨w.heap.size + 1, 1, none⟩ = some (.int .u64 y) ∧
      w'.cell? ⟨w.heap.size + 1 + 1, 0, none⟩ = some (cellv w' ⟨w.heap.size + 1 + 1, 0, none⟩) ∧ w'.cell? ⟨w.heap.size + 1 + 1, 1, none⟩ = some (cellv w' ⟨w.heap.size + 1 + 1, 1, none⟩) ∧
      w'.frozen? ⟨w.heap.size + 1 + 1, 0, none⟩ = false ∧ w'.frozen? ⟨w.heap.size + 1 + 1, 1, none⟩ = false)
    (first
      | exact S3.below (by assumption) hb
      | exact S3.store (by assumption) _ _
      | exact S3.drew (by assumption)
      | exact S3.drew ⟨by assumption, by assumption, by assumption, by assumption, by assumption, by assumption, by assumption, by assumption, by assumption, by assumption⟩)
    (first
      | (go_at_call 45; refine (toFloat_any _ _ _).mono ?_; rintro e w' ⟨rfl, hb⟩)
      | (go_at_call 44; refine (ofFloat_any _ _).mono ?_; rintro e w' ⟨rfl, hb⟩))
  go_wp2
  obtain ⟨hb, r0, r1⟩ := S3.fin (f := f) (g := g) (x := x) (y := y) (by assumption)
  exact bodyPost_ret (v := .tuple #[.agg #[.bool true, .int .u64 ((cn r : Nat))], .int .i64 (0)]) (by simp [results, Tryz.results43, go_sem, r0, r1]) rfl ⟨rfl, hb⟩

set_option maxHeartbeats 1000000 in
theorem fadd_none (f g : Bool) (x y : Int) (w : World) (hr : floatBits .add .f64 x.toNat y.toNat = none) :
    Calls Tryz.prog 43 #[.agg #[.bool f, .int .u64 x], .agg #[.bool g, .int .u64 y]] w fun e w' =>
      e = .returned (.tuple #[.agg #[.bool true, .int .u64 9221120237041090560], .int .i64 0]) ∧ Below w.heap.size w w' := by
  obtain ⟨W0, hW0, hS⟩ := boxes f g x y w
  have HW := Lib.hid hW0; clear hW0
  obtain ⟨-, -, c1, c2, c3, c4, c5, c6, z1, z2⟩ := id hS
  replace hS := S3.drew hS
  have ea := fun w => run_float_none .add 71 x.toNat y.toNat w (by simp) hr
  clear hr
  go_enter Tryz.func43, Tryz.ntmps43
  go_wp2_with fail
  rw [← HW.out]
  clear HW
  go_region_with (first
      | (go_at_call 45; refine (toFloat_any _ _ _).mono ?_; rintro e w' ⟨rfl, hb⟩; replace hb := S3.below (by assumption) hb; obtain ⟨-, -, d1, d2, d3, d4, d5, d6, y1, y2⟩ := id hb)
      | (go_at_call 44; refine (ofFloat_nan _ _ (nq_nan _ _ _)).mono ?_; rintro e w' ⟨rfl, hb⟩; replace hb := S3.below (S3.drew (by assumption)) hb; obtain ⟨-, -, d1, d2, d3, d4, d5, d6, y1, y2⟩ := id hb))
  all_goals
    go_wp2
    obtain ⟨hb, r0, r1⟩ := S3.fin (S3.store (by assumption) (.bool true) (.int .u64 9221120237041090560))
    exact bodyPost_ret (v := .tuple #[.agg #[.bool true, .int .u64 9221120237041090560], .int .i64 0]) (by simp [results, Tryz.results43, go_sem, r0, r1]) rfl ⟨rfl, hb⟩

set_option maxHeartbeats 1000000 in
theorem fsub_num (f g : Bool) (x y : Int) (w : World)
    (r : Nat) (hr : floatBits .sub .f64 x.toNat y.toNat = some r) :
    Calls Tryz.prog 46 #[.agg #[.bool f, .int .u64 x], .agg #[.bool g, .int .u64 y]] w fun e w' =>
      e = .returned (.tuple #[.agg #[.bool true, .int .u64 ((cn r : Nat))], .int .i64 (0)]) ∧ Below w.heap.size w w' := by
  obtain ⟨W0, hW0, hB0, hs0, c1, c2, c3, c4, c5, c6, z1, z2⟩ := boxes f g x y w
  have HW := Lib.hid hW0; clear hW0
  have ea := fun w => run_float_arith (P := Tryz.prog) w .sub 71 .f64 x.toNat y.toNat r hr
  clear hr
  go_enter Tryz.func46, Tryz.ntmps46
  go_wp2_with fail
  rw [← HW.out]
  clear HW
  go_region_held3 (fun w' => Below w.heap.size w w' ∧ w.heap.size + 3 ≤ w'.heap.size ∧
      w'.cell? ⟨w.heap.size, 0, none⟩ = some (.bool f) ∧ w'.cell? ⟨w.heap.size, 1, none⟩ = some (.int .u64 x) ∧
      w'.cell? ⟨w.heap.size + 1, 0, none⟩ = some (.bool g) ∧ w'.cell? ⟨w.heap.size + 1, 1, none⟩ = some (.int .u64 y) ∧
      w'.cell? ⟨w.heap.size + 1 + 1, 0, none⟩ = some (cellv w' ⟨w.heap.size + 1 + 1, 0, none⟩) ∧ w'.cell? ⟨w.heap.size + 1 + 1, 1, none⟩ = some (cellv w' ⟨w.heap.size + 1 + 1, 1, none⟩) ∧
      w'.frozen? ⟨w.heap.size + 1 + 1, 0, none⟩ = false ∧ w'.frozen? ⟨w.heap.size + 1 + 1, 1, none⟩ = false)
    (first
      | exact S3.below (by assumption) hb
      | exact S3.store (by assumption) _ _
      | exact S3.drew (by assumption)
      | exact S3.drew ⟨by assumption, by assumption, by assumption, by assumption, by assumption, by assumption, by assumption, by assumption, by assumption, by assumption⟩)
    (first
      | (go_at_call 45; refine (toFloat_any _ _ _).mono ?_; rintro e w' ⟨rfl, hb⟩)
      | (go_at_call 44; refine (ofFloat_any _ _).mono ?_; rintro e w' ⟨rfl, hb⟩))
  go_wp2
  obtain ⟨hb, r0, r1⟩ := S3.fin (f := f) (g := g) (x := x) (y := y) (by assumption)
  exact bodyPost_ret (v := .tuple #[.agg #[.bool true, .int .u64 ((cn r : Nat))], .int .i64 (0)]) (by simp [results, Tryz.results46, go_sem, r0, r1]) rfl ⟨rfl, hb⟩

set_option maxHeartbeats 1000000 in
theorem fsub_none (f g : Bool) (x y : Int) (w : World) (hr : floatBits .sub .f64 x.toNat y.toNat = none) :
    Calls Tryz.prog 46 #[.agg #[.bool f, .int .u64 x], .agg #[.bool g, .int .u64 y]] w fun e w' =>
      e = .returned (.tuple #[.agg #[.bool true, .int .u64 9221120237041090560], .int .i64 0]) ∧ Below w.heap.size w w' := by
  obtain ⟨W0, hW0, hS⟩ := boxes f g x y w
  have HW := Lib.hid hW0; clear hW0
  obtain ⟨-, -, c1, c2, c3, c4, c5, c6, z1, z2⟩ := id hS
  replace hS := S3.drew hS
  have ea := fun w => run_float_none .sub 71 x.toNat y.toNat w (by simp) hr
  clear hr
  go_enter Tryz.func46, Tryz.ntmps46
  go_wp2_with fail
  rw [← HW.out]
  clear HW
  go_region_with (first
      | (go_at_call 45; refine (toFloat_any _ _ _).mono ?_; rintro e w' ⟨rfl, hb⟩; replace hb := S3.below (by assumption) hb; obtain ⟨-, -, d1, d2, d3, d4, d5, d6, y1, y2⟩ := id hb)
      | (go_at_call 44; refine (ofFloat_nan _ _ (nq_nan _ _ _)).mono ?_; rintro e w' ⟨rfl, hb⟩; replace hb := S3.below (S3.drew (by assumption)) hb; obtain ⟨-, -, d1, d2, d3, d4, d5, d6, y1, y2⟩ := id hb))
  all_goals
    go_wp2
    obtain ⟨hb, r0, r1⟩ := S3.fin (S3.store (by assumption) (.bool true) (.int .u64 9221120237041090560))
    exact bodyPost_ret (v := .tuple #[.agg #[.bool true, .int .u64 9221120237041090560], .int .i64 0]) (by simp [results, Tryz.results46, go_sem, r0, r1]) rfl ⟨rfl, hb⟩

set_option maxHeartbeats 1000000 in
theorem fmul_num (f g : Bool) (x y : Int) (w : World)
    (r : Nat) (hr : floatBits .mul .f64 x.toNat y.toNat = some r) :
    Calls Tryz.prog 47 #[.agg #[.bool f, .int .u64 x], .agg #[.bool g, .int .u64 y]] w fun e w' =>
      e = .returned (.tuple #[.agg #[.bool true, .int .u64 ((cn r : Nat))], .int .i64 (0)]) ∧ Below w.heap.size w w' := by
  obtain ⟨W0, hW0, hB0, hs0, c1, c2, c3, c4, c5, c6, z1, z2⟩ := boxes f g x y w
  have HW := Lib.hid hW0; clear hW0
  have ea := fun w => run_float_arith (P := Tryz.prog) w .mul 71 .f64 x.toNat y.toNat r hr
  clear hr
  go_enter Tryz.func47, Tryz.ntmps47
  go_wp2_with fail
  rw [← HW.out]
  clear HW
  go_region_held3 (fun w' => Below w.heap.size w w' ∧ w.heap.size + 3 ≤ w'.heap.size ∧
      w'.cell? ⟨w.heap.size, 0, none⟩ = some (.bool f) ∧ w'.cell? ⟨w.heap.size, 1, none⟩ = some (.int .u64 x) ∧
      w'.cell? ⟨w.heap.size + 1, 0, none⟩ = some (.bool g) ∧ w'.cell? ⟨w.heap.size + 1, 1, none⟩ = some (.int .u64 y) ∧
      w'.cell? ⟨w.heap.size + 1 + 1, 0, none⟩ = some (cellv w' ⟨w.heap.size + 1 + 1, 0, none⟩) ∧ w'.cell? ⟨w.heap.size + 1 + 1, 1, none⟩ = some (cellv w' ⟨w.heap.size + 1 + 1, 1, none⟩) ∧
      w'.frozen? ⟨w.heap.size + 1 + 1, 0, none⟩ = false ∧ w'.frozen? ⟨w.heap.size + 1 + 1, 1, none⟩ = false)
    (first
      | exact S3.below (by assumption) hb
      | exact S3.store (by assumption) _ _
      | exact S3.drew (by assumption)
      | exact S3.drew ⟨by assumption, by assumption, by assumption, by assumption, by assumption, by assumption, by assumption, by assumption, by assumption, by assumption⟩)
    (first
      | (go_at_call 45; refine (toFloat_any _ _ _).mono ?_; rintro e w' ⟨rfl, hb⟩)
      | (go_at_call 44; refine (ofFloat_any _ _).mono ?_; rintro e w' ⟨rfl, hb⟩))
  go_wp2
  obtain ⟨hb, r0, r1⟩ := S3.fin (f := f) (g := g) (x := x) (y := y) (by assumption)
  exact bodyPost_ret (v := .tuple #[.agg #[.bool true, .int .u64 ((cn r : Nat))], .int .i64 (0)]) (by simp [results, Tryz.results47, go_sem, r0, r1]) rfl ⟨rfl, hb⟩

set_option maxHeartbeats 1000000 in
theorem fmul_none (f g : Bool) (x y : Int) (w : World) (hr : floatBits .mul .f64 x.toNat y.toNat = none) :
    Calls Tryz.prog 47 #[.agg #[.bool f, .int .u64 x], .agg #[.bool g, .int .u64 y]] w fun e w' =>
      e = .returned (.tuple #[.agg #[.bool true, .int .u64 9221120237041090560], .int .i64 0]) ∧ Below w.heap.size w w' := by
  obtain ⟨W0, hW0, hS⟩ := boxes f g x y w
  have HW := Lib.hid hW0; clear hW0
  obtain ⟨-, -, c1, c2, c3, c4, c5, c6, z1, z2⟩ := id hS
  replace hS := S3.drew hS
  have ea := fun w => run_float_none .mul 71 x.toNat y.toNat w (by simp) hr
  clear hr
  go_enter Tryz.func47, Tryz.ntmps47
  go_wp2_with fail
  rw [← HW.out]
  clear HW
  go_region_with (first
      | (go_at_call 45; refine (toFloat_any _ _ _).mono ?_; rintro e w' ⟨rfl, hb⟩; replace hb := S3.below (by assumption) hb; obtain ⟨-, -, d1, d2, d3, d4, d5, d6, y1, y2⟩ := id hb)
      | (go_at_call 44; refine (ofFloat_nan _ _ (nq_nan _ _ _)).mono ?_; rintro e w' ⟨rfl, hb⟩; replace hb := S3.below (S3.drew (by assumption)) hb; obtain ⟨-, -, d1, d2, d3, d4, d5, d6, y1, y2⟩ := id hb))
  all_goals
    go_wp2
    obtain ⟨hb, r0, r1⟩ := S3.fin (S3.store (by assumption) (.bool true) (.int .u64 9221120237041090560))
    exact bodyPost_ret (v := .tuple #[.agg #[.bool true, .int .u64 9221120237041090560], .int .i64 0]) (by simp [results, Tryz.results47, go_sem, r0, r1]) rfl ⟨rfl, hb⟩

set_option maxHeartbeats 1000000 in
theorem fdiv_num (f g : Bool) (x y : Int) (w : World)
    (r : Nat) (hr : floatBits .quo .f64 x.toNat y.toNat = some r) :
    Calls Tryz.prog 48 #[.agg #[.bool f, .int .u64 x], .agg #[.bool g, .int .u64 y]] w fun e w' =>
      e = .returned (.tuple #[.agg #[.bool true, .int .u64 ((cn r : Nat))], .int .i64 (0)]) ∧ Below w.heap.size w w' := by
  obtain ⟨W0, hW0, hB0, hs0, c1, c2, c3, c4, c5, c6, z1, z2⟩ := boxes f g x y w
  have HW := Lib.hid hW0; clear hW0
  have ea := fun w => run_float_arith (P := Tryz.prog) w .quo 71 .f64 x.toNat y.toNat r hr
  clear hr
  go_enter Tryz.func48, Tryz.ntmps48
  go_wp2_with fail
  rw [← HW.out]
  clear HW
  go_region_held3 (fun w' => Below w.heap.size w w' ∧ w.heap.size + 3 ≤ w'.heap.size ∧
      w'.cell? ⟨w.heap.size, 0, none⟩ = some (.bool f) ∧ w'.cell? ⟨w.heap.size, 1, none⟩ = some (.int .u64 x) ∧
      w'.cell? ⟨w.heap.size + 1, 0, none⟩ = some (.bool g) ∧ w'.cell? ⟨w.heap.size + 1, 1, none⟩ = some (.int .u64 y) ∧
      w'.cell? ⟨w.heap.size + 1 + 1, 0, none⟩ = some (cellv w' ⟨w.heap.size + 1 + 1, 0, none⟩) ∧ w'.cell? ⟨w.heap.size + 1 + 1, 1, none⟩ = some (cellv w' ⟨w.heap.size + 1 + 1, 1, none⟩) ∧
      w'.frozen? ⟨w.heap.size + 1 + 1, 0, none⟩ = false ∧ w'.frozen? ⟨w.heap.size + 1 + 1, 1, none⟩ = false)
    (first
      | exact S3.below (by assumption) hb
      | exact S3.store (by assumption) _ _
      | exact S3.drew (by assumption)
      | exact S3.drew ⟨by assumption, by assumption, by assumption, by assumption, by assumption, by assumption, by assumption, by assumption, by assumption, by assumption⟩)
    (first
      | (go_at_call 45; refine (toFloat_any _ _ _).mono ?_; rintro e w' ⟨rfl, hb⟩)
      | (go_at_call 44; refine (ofFloat_any _ _).mono ?_; rintro e w' ⟨rfl, hb⟩))
  go_wp2
  obtain ⟨hb, r0, r1⟩ := S3.fin (f := f) (g := g) (x := x) (y := y) (by assumption)
  exact bodyPost_ret (v := .tuple #[.agg #[.bool true, .int .u64 ((cn r : Nat))], .int .i64 (0)]) (by simp [results, Tryz.results48, go_sem, r0, r1]) rfl ⟨rfl, hb⟩

set_option maxHeartbeats 1000000 in
theorem fdiv_none (f g : Bool) (x y : Int) (w : World) (hr : floatBits .quo .f64 x.toNat y.toNat = none) :
    Calls Tryz.prog 48 #[.agg #[.bool f, .int .u64 x], .agg #[.bool g, .int .u64 y]] w fun e w' =>
      e = .returned (.tuple #[.agg #[.bool true, .int .u64 9221120237041090560], .int .i64 0]) ∧ Below w.heap.size w w' := by
  obtain ⟨W0, hW0, hS⟩ := boxes f g x y w
  have HW := Lib.hid hW0; clear hW0
  obtain ⟨-, -, c1, c2, c3, c4, c5, c6, z1, z2⟩ := id hS
  replace hS := S3.drew hS
  have ea := fun w => run_float_none .quo 71 x.toNat y.toNat w (by simp) hr
  clear hr
  go_enter Tryz.func48, Tryz.ntmps48
  go_wp2_with fail
  rw [← HW.out]
  clear HW
  go_region_with (first
      | (go_at_call 45; refine (toFloat_any _ _ _).mono ?_; rintro e w' ⟨rfl, hb⟩; replace hb := S3.below (by assumption) hb; obtain ⟨-, -, d1, d2, d3, d4, d5, d6, y1, y2⟩ := id hb)
      | (go_at_call 44; refine (ofFloat_nan _ _ (nq_nan _ _ _)).mono ?_; rintro e w' ⟨rfl, hb⟩; replace hb := S3.below (S3.drew (by assumption)) hb; obtain ⟨-, -, d1, d2, d3, d4, d5, d6, y1, y2⟩ := id hb))
  all_goals
    go_wp2
    obtain ⟨hb, r0, r1⟩ := S3.fin (S3.store (by assumption) (.bool true) (.int .u64 9221120237041090560))
    exact bodyPost_ret (v := .tuple #[.agg #[.bool true, .int .u64 9221120237041090560], .int .i64 0]) (by simp [results, Tryz.results48, go_sem, r0, r1]) rfl ⟨rfl, hb⟩

end Go.Proofs.YtkipioojdlkbcaaGreatDoor
