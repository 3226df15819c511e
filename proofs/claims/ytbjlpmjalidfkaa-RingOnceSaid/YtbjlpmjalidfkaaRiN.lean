/- Four numbers held against four; cells that are grown one behind the other. -/
import Derived.Test.YtbjlpmjalidfkaaRiM
namespace Go.Proofs.Ytbjlpmjalidfkaa
open Go.RowKit Go.Shelf

theorem eqIn_four (a b c d x y z u : Int) (w : World) :
    (Op.equalIn 10000 128 (.agg #[.int .i64 a, .int .i64 b, .int .i64 c, .int .i64 d]) (.agg #[.int .i64 x, .int .i64 y, .int .i64 z, .int .i64 u])).run Try.prog w = .ok (a == x && b == y && c == z && d == u) w := by
  have q : ∀ (x y : Int) (w : World), (Op.equalIn 9999 3 (.int .i64 x) (.int .i64 y)).run Try.prog w = .ok (x == y) w := fun x y w => run_equalIn_int w 9998 3 .i64 .i64 x y Try.underlying3
  have ht : Try.prog.underlying 128 = some (.array 4 3) := by kernel_rfl
  rw [Op.equalIn]
  generalize hE : Op.equalIn 9999 3 = E at *
  simp only [Sem.run_bind, run_underlying ht, Result.andThen_ok, Try.sizeOf3, hE]
  have p0 : ∀ (x y z u : Int) (w : World), (part 3 #[.int .i64 x, .int .i64 y, .int .i64 z, .int .i64 u] 0).run Try.prog w = .ok (.int .i64 x) w := by intro x y z u w; simp [part, Try.isAgg3, go_sem]
  have p1 : ∀ (x y z u : Int) (w : World), (part 3 #[.int .i64 x, .int .i64 y, .int .i64 z, .int .i64 u] 1).run Try.prog w = .ok (.int .i64 y) w := by intro x y z u w; simp [part, Try.isAgg3, go_sem]
  have p2 : ∀ (x y z u : Int) (w : World), (part 3 #[.int .i64 x, .int .i64 y, .int .i64 z, .int .i64 u] 2).run Try.prog w = .ok (.int .i64 z) w := by intro x y z u w; simp [part, Try.isAgg3, go_sem]
  have p3 : ∀ (x y z u : Int) (w : World), (part 3 #[.int .i64 x, .int .i64 y, .int .i64 z, .int .i64 u] 3).run Try.prog w = .ok (.int .i64 u) w := by intro x y z u w; simp [part, Try.isAgg3, go_sem]
  simp only [Std.Legacy.Range.forIn_eq_forIn_range', Std.Legacy.Range.size, List.range'_succ]
  by_cases h1 : a = x <;> by_cases h2 : b = y <;> by_cases h3 : c = z <;> by_cases h4 : d = u <;> simp [h1, h2, h3, h4, p0, p1, p2, p3, q, List.range']

set_option maxRecDepth 100000 in
theorem seg_field (a b c d : Value) (W : World) : (Instr.field 40 (.agg #[a, b, c, d]) 0).run Try.prog W = .ok a W ∧ (Instr.field 40 (.agg #[a, b, c, d]) 3).run Try.prog W = .ok d W := by
  obtain ⟨fs, h, h0, h3⟩ : ∃ fs, Try.prog.underlying 40 = some (.struct fs) ∧ (fs[0]?.map fun f => (f.type, f.offset)) = some (37, 0) ∧ (fs[3]?.map fun f => (f.type, f.offset)) = some (37, 3) := ⟨_, rfl, by kernel_rfl, by kernel_rfl⟩
  cases e0 : fs[0]? with
  | none => rw [e0] at h0; cases h0
  | some f0 =>
    cases e3 : fs[3]? with
    | none => rw [e3] at h3; cases h3
    | some f3 =>
      rw [e0] at h0
      rw [e3] at h3
      simp at h0 h3
      simp [Instr.field, run_underlying h, e0, e3, part, h0, h3, asAgg, Try.isAgg37, Try.sizeOf37, go_sem]
set_option maxRecDepth 100000 in
theorem seg_field0 (a b c d : Value) (W : World) : (Instr.field 40 (.agg #[a, b, c, d]) 0).run Try.prog W = .ok a W := (seg_field a b c d W).1
set_option maxRecDepth 100000 in
theorem seg_field3 (a b c d : Value) (W : World) : (Instr.field 40 (.agg #[a, b, c, d]) 3).run Try.prog W = .ok d W := (seg_field a b c d W).2

/-- The cells at 1, 4, .., the last one ahead. -/
def steps : Nat → List Int
  | 0 => []
  | k + 1 => (3 * (k : Int) + 1) :: steps k
theorem steps_length : ∀ k, (steps k).length = k
  | 0 => rfl
  | k + 1 => by simp [steps, steps_length k]
theorem steps_mem : ∀ {k : Nat} {x : Int}, x ∈ steps k → 1 ≤ x ∧ x + 3 ≤ 3 * (k : Int) + 1
  | 0, x, h => by cases h
  | k + 1, x, h => by
    rcases List.mem_cons.1 h with rfl | h
    · omega
    · have := steps_mem h
      omega
theorem steps_fit {n : Nat} : ∀ k, 3 * k + 1 ≤ n → Fit n (steps k)
  | 0, _ => fit_nil n
  | k + 1, h => by
    have hk := steps_fit (n := n) k (by omega)
    refine ⟨fun x hx => ?_, List.pairwise_cons.2 ⟨fun y hy => ?_, hk.far⟩⟩
    · have := steps_mem hx
      omega
    · have := steps_mem hy
      omega

end Go.Proofs.Ytbjlpmjalidfkaa
