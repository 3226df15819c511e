/- The small questions that two runs of places are asked: each is read, nothing that was there turns. -/
import Derived.Test.YtbjlpmjalidfkaaChecked
import Derived.WalkKit
import Derived.BigQuiet
import Derived.Deep.QuietTactic
import Derived.Below
import Derived.Laws.StructEq
import Derived.Lib.QuietBelow
import Derived.Lib.Hide
namespace Go.Proofs.Ytbjlpmjalidfkaa.Ex
open Go.RowKit Go.Sort

theorem later {W W' : World} {a : Addr} {v : Value} (hb : Below W.heap.size W W') (h : W.cell? a = some v) : W'.cell? a = some v :=
  (hb.cell (World.block_lt_of_cell? _ _ h)).trans h
theorem on {B : Nat} {w W W' : World} (h : Below B w W) (hb : Below W.heap.size W W') (hB : B ≤ W.heap.size) : Below B w W' := h.trans (hb.mono hB)
theorem onB {w W W' : World} (h : Below w.heap.size w W) (hb : Below W.heap.size W W') : Below w.heap.size w W' := h.trans (hb.mono h.size)

theorem eqIn_pair' (d : Nat) (t : TypeId) (ht : Try.prog.underlying t = some (.array 2 3)) (a n b m : Int) (w : World) :
    (Op.equalIn (d + 2) t (.agg #[.int .i64 a, .int .i64 n]) (.agg #[.int .i64 b, .int .i64 m])).run Try.prog w = .ok (a == b && n == m) w := by
  have q : ∀ (x y : Int) (w : World), (Op.equalIn (d + 1) 3 (.int .i64 x) (.int .i64 y)).run Try.prog w = .ok (x == y) w := fun x y w => run_equalIn_int w d 3 .i64 .i64 x y Try.underlying3
  rw [Op.equalIn]
  generalize hE : Op.equalIn (d + 1) 3 = E at *
  simp only [Sem.run_bind, run_underlying ht, Result.andThen_ok, Try.sizeOf3, hE]
  have p0 : ∀ (x y : Int) (w : World), (part 3 #[.int .i64 x, .int .i64 y] 0).run Try.prog w = .ok (.int .i64 x) w := by intro x y w; simp [part, Try.isAgg3, go_sem]
  have p1 : ∀ (x y : Int) (w : World), (part 3 #[.int .i64 x, .int .i64 y] 1).run Try.prog w = .ok (.int .i64 y) w := by intro x y w; simp [part, Try.isAgg3, go_sem]
  simp only [Std.Legacy.Range.forIn_eq_forIn_range', Std.Legacy.Range.size, List.range'_succ]
  by_cases h1 : a = b <;> by_cases h2 : n = m <;> simp [h1, h2, p0, p1, q, List.range']
theorem eqIn_pair (t : TypeId) (ht : Try.prog.underlying t = some (.array 2 3)) (a n b m : Int) (w : World) :
    (Op.equalIn 10000 t (.agg #[.int .i64 a, .int .i64 n]) (.agg #[.int .i64 b, .int .i64 m])).run Try.prog w = .ok (a == b && n == m) w := eqIn_pair' 9998 t ht a n b m w

set_option maxHeartbeats 1000000 in
set_option maxRecDepth 100000 in
/-- end. -/
theorem end_any (a n : Int) (w : World) (h0 : -9223372036854775808 ≤ a + n) (h1 : a + n ≤ 9223372036854775807) :
    Calls Try.prog 107 #[.agg #[.int .i64 a, .int .i64 n]] w fun e w' => e = .returned (.int .i64 (a + n)) ∧ Below w.heap.size w w' := by
  have hw : wrap64 (a + n) = a + n := by unfold wrap64; omega
  go_enter Try.func107, Try.ntmps107
  go_wp2
  go_ret
  refine ⟨by simp_all, (Below.refl _ w).alloc (Nat.le_refl _) _⟩

set_option maxHeartbeats 1000000 in
set_option maxRecDepth 100000 in
/-- isAheadOf. -/
theorem ahead_any (a n b m : Int) (w : World) :
    Calls Try.prog 108 #[.agg #[.int .i64 a, .int .i64 n], .agg #[.int .i64 b, .int .i64 m]] w fun e w' => e = .returned (.bool (decide (a < b))) ∧ Below w.heap.size w w' := by
  go_enter Try.func108, Try.ntmps108
  go_wp2
  go_ret
  exact ⟨by simp_all, ((Below.refl _ w).alloc (Nat.le_refl _) _).alloc (by simp) _⟩

theorem end_regrown (a n : Int) (W : World) (d : Nat) (os : Array Obj) (h0 : -9223372036854775808 ≤ a + n) (h1 : a + n ≤ 9223372036854775807) :
    Calls Try.prog 107 #[.agg #[.int .i64 a, .int .i64 n]] (grow (redrawn W d) os) fun e w'' => e = .returned (.int .i64 (a + n)) ∧ ∃ p : Regrown, w'' = grow (redrawn W p.d) p.os :=
  Calls.regrown_of (end_any a n _ h0 h1)

set_option maxHeartbeats 1000000 in
set_option maxRecDepth 100000 in
/-- touches: whether the second one begins where the first one ends. -/
theorem touches_any (a n b m : Int) (w : World) (h0 : -9223372036854775808 ≤ a + n) (h1 : a + n ≤ 9223372036854775807) :
    Calls Try.prog 111 #[.agg #[.int .i64 a, .int .i64 n], .agg #[.int .i64 b, .int .i64 m]] w fun e w' => e = .returned (.bool (decide (b = a + n))) ∧ Below w.heap.size w w' := by
  have hB := ((Below.refl w.heap.size w).alloc (Nat.le_refl _) (.cells #[.int .i64 a, .int .i64 n] 145)).alloc (by simp) (.cells #[.int .i64 b, .int .i64 m] 145)
  have hc0 : ((w.alloc (.cells #[.int .i64 a, .int .i64 n] 145)).alloc (.cells #[.int .i64 b, .int .i64 m] 145)).cell? ⟨w.heap.size, 0, none⟩ = some (.int .i64 a) := by simp [go_sem]
  have hc1 : ((w.alloc (.cells #[.int .i64 a, .int .i64 n] 145)).alloc (.cells #[.int .i64 b, .int .i64 m] 145)).cell? ⟨w.heap.size, 1, none⟩ = some (.int .i64 n) := by simp [go_sem]
  have hc2 : ((w.alloc (.cells #[.int .i64 a, .int .i64 n] 145)).alloc (.cells #[.int .i64 b, .int .i64 m] 145)).cell? ⟨w.heap.size + 1, 0, none⟩ = some (.int .i64 b) := by simp [go_sem]
  have hc3 : ((w.alloc (.cells #[.int .i64 a, .int .i64 n] 145)).alloc (.cells #[.int .i64 b, .int .i64 m] 145)).cell? ⟨w.heap.size + 1, 1, none⟩ = some (.int .i64 m) := by simp [go_sem]
  go_enter Try.func111, Try.ntmps111
  go_wp2_with fail
  generalize hW : ((w.alloc (.cells #[.int .i64 a, .int .i64 n] 145)).alloc (.cells #[.int .i64 b, .int .i64 m] 145)) = W at hB hc0 hc1 hc2 hc3 ⊢
  clear hW
  have k0 := cell_regrown hc0
  have k1 := cell_regrown hc1
  have k2 := cell_regrown hc2
  have k3 := cell_regrown hc3
  have he : ∀ W : World, (Op.equalIn 10000 145 (.agg #[.int .i64 b, .int .i64 m]) (.agg #[.int .i64 (a + n), .int .i64 m])).run Try.prog W = .ok (decide (b = a + n)) W := fun W => by
    rw [eqIn_pair _ Try.underlying145]
    by_cases h : b = a + n <;> simp [h]
  refine wp_region_quiet_below (by kernel_rfl) (by kernel_rfl) ?_
  repeat (first | go_big_quiet_skip | (quiet_step (exact end_regrown _ _ _ _ _ (by assumption) (by assumption))))
  refine wpQuiet_nil ?_
  intro _ hw'
  obtain ⟨⟨dq, osq⟩, hw''⟩ := hw'
  subst hw''
  have hE := onB hB (below_regrown W dq osq)
  clear k0 k1 k2 k3 hB
  go_wp2
  go_ret
  exact ⟨by simp, hE⟩

set_option maxHeartbeats 1000000 in
set_option maxRecDepth 100000 in
/-- meets: some place is in both. -/
theorem meets_any (a n b m : Int) (w : World) (h0 : -9223372036854775808 ≤ a + n) (h1 : a + n ≤ 9223372036854775807) (h2 : -9223372036854775808 ≤ b + m) (h3 : b + m ≤ 9223372036854775807) :
    Calls Try.prog 94 #[.agg #[.int .i64 a, .int .i64 n], .agg #[.int .i64 b, .int .i64 m]] w fun e w' => e = .returned (.bool (decide (a < b + m) && decide (b < a + n))) ∧ Below w.heap.size w w' := by
  by_cases g : a < b + m
  · have g' : decide (a < b + m) = true := by simpa using g
    have hB := ((Below.refl w.heap.size w).alloc (Nat.le_refl _) (.cells #[.int .i64 a, .int .i64 n] 145)).alloc (by simp) (.cells #[.int .i64 b, .int .i64 m] 145)
    have hc0 : ((w.alloc (.cells #[.int .i64 a, .int .i64 n] 145)).alloc (.cells #[.int .i64 b, .int .i64 m] 145)).cell? ⟨w.heap.size, 0, none⟩ = some (.int .i64 a) := by simp [go_sem]
    have hc1 : ((w.alloc (.cells #[.int .i64 a, .int .i64 n] 145)).alloc (.cells #[.int .i64 b, .int .i64 m] 145)).cell? ⟨w.heap.size, 1, none⟩ = some (.int .i64 n) := by simp [go_sem]
    have hc2 : ((w.alloc (.cells #[.int .i64 a, .int .i64 n] 145)).alloc (.cells #[.int .i64 b, .int .i64 m] 145)).cell? ⟨w.heap.size + 1, 0, none⟩ = some (.int .i64 b) := by simp [go_sem]
    have hc3 : ((w.alloc (.cells #[.int .i64 a, .int .i64 n] 145)).alloc (.cells #[.int .i64 b, .int .i64 m] 145)).cell? ⟨w.heap.size + 1, 1, none⟩ = some (.int .i64 m) := by simp [go_sem]
    go_enter Try.func94, Try.ntmps94
    go_wp2_with fail
    generalize hW : ((w.alloc (.cells #[.int .i64 a, .int .i64 n] 145)).alloc (.cells #[.int .i64 b, .int .i64 m] 145)) = W at hB hc0 hc1 hc2 hc3 ⊢
    clear hW
    have k0 := cell_regrown hc0
    have k1 := cell_regrown hc1
    have k2 := cell_regrown hc2
    have k3 := cell_regrown hc3
    refine wp_region_quiet_below (by kernel_rfl) (by kernel_rfl) ?_
    repeat (first | go_big_quiet_skip | (quiet_step (exact end_regrown _ _ _ _ _ (by assumption) (by assumption))))
    refine wpQuiet_nil ?_
    intro _ hw'
    obtain ⟨⟨dq, osq⟩, hw''⟩ := hw'
    subst hw''
    have hE := onB hB (below_regrown W dq osq)
    clear k0 k1 k2 k3 hB
    go_wp2
    go_ret
    exact ⟨by simp [g], hE⟩
  · have g' : decide (a < b + m) = false := by simpa using g
    have hB := ((Below.refl w.heap.size w).alloc (Nat.le_refl _) (.cells #[.int .i64 a, .int .i64 n] 145)).alloc (by simp) (.cells #[.int .i64 b, .int .i64 m] 145)
    have hc0 : ((w.alloc (.cells #[.int .i64 a, .int .i64 n] 145)).alloc (.cells #[.int .i64 b, .int .i64 m] 145)).cell? ⟨w.heap.size, 0, none⟩ = some (.int .i64 a) := by simp [go_sem]
    have hc1 : ((w.alloc (.cells #[.int .i64 a, .int .i64 n] 145)).alloc (.cells #[.int .i64 b, .int .i64 m] 145)).cell? ⟨w.heap.size, 1, none⟩ = some (.int .i64 n) := by simp [go_sem]
    have hc2 : ((w.alloc (.cells #[.int .i64 a, .int .i64 n] 145)).alloc (.cells #[.int .i64 b, .int .i64 m] 145)).cell? ⟨w.heap.size + 1, 0, none⟩ = some (.int .i64 b) := by simp [go_sem]
    have hc3 : ((w.alloc (.cells #[.int .i64 a, .int .i64 n] 145)).alloc (.cells #[.int .i64 b, .int .i64 m] 145)).cell? ⟨w.heap.size + 1, 1, none⟩ = some (.int .i64 m) := by simp [go_sem]
    go_enter Try.func94, Try.ntmps94
    go_wp2_with fail
    generalize hW : ((w.alloc (.cells #[.int .i64 a, .int .i64 n] 145)).alloc (.cells #[.int .i64 b, .int .i64 m] 145)) = W at hB hc0 hc1 hc2 hc3 ⊢
    clear hW
    have k0 := cell_regrown hc0
    have k1 := cell_regrown hc1
    have k2 := cell_regrown hc2
    have k3 := cell_regrown hc3
    refine wp_region_quiet_below (by kernel_rfl) (by kernel_rfl) ?_
    repeat (first | go_big_quiet_skip | (quiet_step (exact end_regrown _ _ _ _ _ (by assumption) (by assumption))))
    refine wpQuiet_nil ?_
    intro _ hw'
    obtain ⟨⟨dq, osq⟩, hw''⟩ := hw'
    subst hw''
    have hE := onB hB (below_regrown W dq osq)
    clear k0 k1 k2 k3 hB
    go_wp2
    go_ret
    have g2 : ¬ a < b + m := by omega
    exact ⟨by simp [g2], hE⟩

set_option maxHeartbeats 1000000 in
set_option maxRecDepth 100000 in
/-- has: whether the second one is a run, all of it the first one's. -/
theorem has_any (a n b m : Int) (w : World) (h0 : 0 ≤ a) (h1 : a ≤ 1000000) (h2 : 0 ≤ n) (h3 : n ≤ 1000000) (hb : b ≤ 9223372036854775807) :
    Calls Try.prog 92 #[.agg #[.int .i64 a, .int .i64 n], .agg #[.int .i64 b, .int .i64 m]] w fun e w' => e = .returned (.bool (decide (1 ≤ m ∧ a ≤ b ∧ b + m ≤ a + n))) ∧ Below w.heap.size w w' := by
  have h4 : -9223372036854775808 ≤ a + n := by omega
  have h5 : a + n ≤ 9223372036854775807 := by omega
  by_cases g : 1 ≤ m
  · have g' : decide (1 ≤ m) = true := by simpa using g
    by_cases f : a ≤ b
    · have f' : decide (a ≤ b) = true := by simpa using f
      have h6 : -9223372036854775808 ≤ a + n - b := by omega
      have h7 : a + n - b ≤ 9223372036854775807 := by omega
      have hB := ((Below.refl w.heap.size w).alloc (Nat.le_refl _) (.cells #[.int .i64 a, .int .i64 n] 145)).alloc (by simp) (.cells #[.int .i64 b, .int .i64 m] 145)
      have hc0 : ((w.alloc (.cells #[.int .i64 a, .int .i64 n] 145)).alloc (.cells #[.int .i64 b, .int .i64 m] 145)).cell? ⟨w.heap.size, 0, none⟩ = some (.int .i64 a) := by simp [go_sem]
      have hc1 : ((w.alloc (.cells #[.int .i64 a, .int .i64 n] 145)).alloc (.cells #[.int .i64 b, .int .i64 m] 145)).cell? ⟨w.heap.size, 1, none⟩ = some (.int .i64 n) := by simp [go_sem]
      have hc2 : ((w.alloc (.cells #[.int .i64 a, .int .i64 n] 145)).alloc (.cells #[.int .i64 b, .int .i64 m] 145)).cell? ⟨w.heap.size + 1, 0, none⟩ = some (.int .i64 b) := by simp [go_sem]
      have hc3 : ((w.alloc (.cells #[.int .i64 a, .int .i64 n] 145)).alloc (.cells #[.int .i64 b, .int .i64 m] 145)).cell? ⟨w.heap.size + 1, 1, none⟩ = some (.int .i64 m) := by simp [go_sem]
      go_enter Try.func92, Try.ntmps92
      go_wp2_with fail
      generalize hW : ((w.alloc (.cells #[.int .i64 a, .int .i64 n] 145)).alloc (.cells #[.int .i64 b, .int .i64 m] 145)) = W at hB hc0 hc1 hc2 hc3 ⊢
      clear hW
      have k0 := cell_regrown hc0
      have k1 := cell_regrown hc1
      have k2 := cell_regrown hc2
      have k3 := cell_regrown hc3
      refine wp_region_quiet_below (by kernel_rfl) (by kernel_rfl) ?_
      repeat (first | go_big_quiet_skip | (quiet_step (exact end_regrown _ _ _ _ _ (by assumption) (by assumption))))
      refine wpQuiet_nil ?_
      intro _ hw'
      obtain ⟨⟨dq, osq⟩, hw''⟩ := hw'
      subst hw''
      have hE := onB hB (below_regrown W dq osq)
      clear k0 k1 k2 k3 hB
      go_wp2
      go_ret
      refine ⟨?_, hE⟩
      clear g' f'
      have hw : IntKind.i64.wrap (a + n - b) = a + n - b := IntWalk.i64_in _ (by omega)
      rw [show decide (1 ≤ m ∧ a ≤ b ∧ b + m ≤ a + n) = decide (m ≤ IntKind.i64.wrap (a + n - b)) from decide_eq_decide.2 (by rw [hw]; omega)]
      rfl
    · have f' : decide (a ≤ b) = false := by simpa using f
      have hB := ((Below.refl w.heap.size w).alloc (Nat.le_refl _) (.cells #[.int .i64 a, .int .i64 n] 145)).alloc (by simp) (.cells #[.int .i64 b, .int .i64 m] 145)
      have hc0 : ((w.alloc (.cells #[.int .i64 a, .int .i64 n] 145)).alloc (.cells #[.int .i64 b, .int .i64 m] 145)).cell? ⟨w.heap.size, 0, none⟩ = some (.int .i64 a) := by simp [go_sem]
      have hc1 : ((w.alloc (.cells #[.int .i64 a, .int .i64 n] 145)).alloc (.cells #[.int .i64 b, .int .i64 m] 145)).cell? ⟨w.heap.size, 1, none⟩ = some (.int .i64 n) := by simp [go_sem]
      have hc2 : ((w.alloc (.cells #[.int .i64 a, .int .i64 n] 145)).alloc (.cells #[.int .i64 b, .int .i64 m] 145)).cell? ⟨w.heap.size + 1, 0, none⟩ = some (.int .i64 b) := by simp [go_sem]
      have hc3 : ((w.alloc (.cells #[.int .i64 a, .int .i64 n] 145)).alloc (.cells #[.int .i64 b, .int .i64 m] 145)).cell? ⟨w.heap.size + 1, 1, none⟩ = some (.int .i64 m) := by simp [go_sem]
      go_enter Try.func92, Try.ntmps92
      go_wp2_with fail
      generalize hW : ((w.alloc (.cells #[.int .i64 a, .int .i64 n] 145)).alloc (.cells #[.int .i64 b, .int .i64 m] 145)) = W at hB hc0 hc1 hc2 hc3 ⊢
      clear hW
      have k0 := cell_regrown hc0
      have k1 := cell_regrown hc1
      have k2 := cell_regrown hc2
      have k3 := cell_regrown hc3
      refine wp_region_quiet_below (by kernel_rfl) (by kernel_rfl) ?_
      repeat (first | go_big_quiet_skip | (quiet_step (exact end_regrown _ _ _ _ _ (by assumption) (by assumption))))
      refine wpQuiet_nil ?_
      intro _ hw'
      obtain ⟨⟨dq, osq⟩, hw''⟩ := hw'
      subst hw''
      have hE := onB hB (below_regrown W dq osq)
      clear k0 k1 k2 k3 hB
      go_wp2
      go_ret
      clear g' f'
      rw [decide_eq_false (p := 1 ≤ m ∧ a ≤ b ∧ b + m ≤ a + n) (by omega)]
      exact ⟨rfl, hE⟩
  · have g' : decide (1 ≤ m) = false := by simpa using g
    have hB := ((Below.refl w.heap.size w).alloc (Nat.le_refl _) (.cells #[.int .i64 a, .int .i64 n] 145)).alloc (by simp) (.cells #[.int .i64 b, .int .i64 m] 145)
    have hc0 : ((w.alloc (.cells #[.int .i64 a, .int .i64 n] 145)).alloc (.cells #[.int .i64 b, .int .i64 m] 145)).cell? ⟨w.heap.size, 0, none⟩ = some (.int .i64 a) := by simp [go_sem]
    have hc1 : ((w.alloc (.cells #[.int .i64 a, .int .i64 n] 145)).alloc (.cells #[.int .i64 b, .int .i64 m] 145)).cell? ⟨w.heap.size, 1, none⟩ = some (.int .i64 n) := by simp [go_sem]
    have hc2 : ((w.alloc (.cells #[.int .i64 a, .int .i64 n] 145)).alloc (.cells #[.int .i64 b, .int .i64 m] 145)).cell? ⟨w.heap.size + 1, 0, none⟩ = some (.int .i64 b) := by simp [go_sem]
    have hc3 : ((w.alloc (.cells #[.int .i64 a, .int .i64 n] 145)).alloc (.cells #[.int .i64 b, .int .i64 m] 145)).cell? ⟨w.heap.size + 1, 1, none⟩ = some (.int .i64 m) := by simp [go_sem]
    go_enter Try.func92, Try.ntmps92
    go_wp2_with fail
    generalize hW : ((w.alloc (.cells #[.int .i64 a, .int .i64 n] 145)).alloc (.cells #[.int .i64 b, .int .i64 m] 145)) = W at hB hc0 hc1 hc2 hc3 ⊢
    clear hW
    have k0 := cell_regrown hc0
    have k1 := cell_regrown hc1
    have k2 := cell_regrown hc2
    have k3 := cell_regrown hc3
    refine wp_region_quiet_below (by kernel_rfl) (by kernel_rfl) ?_
    repeat (first | go_big_quiet_skip | (quiet_step (exact end_regrown _ _ _ _ _ (by assumption) (by assumption))))
    refine wpQuiet_nil ?_
    intro _ hw'
    obtain ⟨⟨dq, osq⟩, hw''⟩ := hw'
    subst hw''
    have hE := onB hB (below_regrown W dq osq)
    clear k0 k1 k2 k3 hB
    go_wp2
    go_ret
    clear g'
    rw [decide_eq_false (p := 1 ≤ m ∧ a ≤ b ∧ b + m ≤ a + n) (by omega)]
    exact ⟨rfl, hE⟩

set_option maxHeartbeats 1000000 in
set_option maxRecDepth 100000 in
/-- The question of Take: whether the run has so many places; how many stands in a box of the caller's. -/
theorem fits_any (a m n : Int) (B : Nat) (w : World) (hc : w.cell? ⟨B, 0, none⟩ = some (.int .i64 n)) :
    Calls Try.prog 103 #[.agg #[.int .i64 a, .int .i64 m], .pointer (some ⟨B, 0, none⟩)] w fun e w' => e = .returned (.bool (decide (n ≤ m))) ∧ Below w.heap.size w w' := by
  have hB : B < w.heap.size := World.block_lt_of_cell? _ _ hc
  have hne : B ≠ w.heap.size := by omega
  go_enter Try.func103, Try.ntmps103
  go_wp2
  go_ret
  exact ⟨by simp_all, (Below.refl _ w).alloc (Nat.le_refl _) _⟩

end Go.Proofs.Ytbjlpmjalidfkaa.Ex
