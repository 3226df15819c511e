/- What a law's loop leans on: any call of the program's ring; counts; two answers that are one; what stays as it lay. -/
import Derived.Test.YtbjlpmjalidfkaaRjA
import Derived.Test.YtbjlpmjalidfkaaRjD
import Derived.Deep.Slices
import Derived.ChangeSame
import Derived.OpenShut
import Derived.ProofKit
namespace Go.Proofs.Ytbjlpmjalidfkaa
open Go.RowKit Go.Shelf

theorem did_any (s : Spot) (q : Nat) (R : Rows) (w : World) (hR : Ring s R w) (hQ : Ref w q s.n R) (K N : Int) (hp : ∀ x, x ∈ R.all → 1 ≤ x) (hs : R.all.length < 1000) (hf : K = 0 → Rng s.n N → Fit s.n (N :: R.all)) : DidSaid s q K N R w := by
  by_cases k0 : K = 0
  · subst k0
    by_cases g : Rng s.n N
    · exact did_grow s q R w hR N (hf rfl g) hs
    · exact did_grow_out s q R w hR N g
  by_cases k2 : K = 2
  · subst k2
    by_cases g : R.frm = []
    · exact did_shade_none s q R w hR N hQ (by omega) g
    · exact did_shade s q R w hR N hQ hp (by omega) g
  by_cases k3 : K = 3
  · subst k3
    by_cases g : R.grey = []
    · exact did_next_none s q R w hR N g
    · exact did_next s q R w hR N _ _ (List.dropLast_concat_getLast g).symm
  by_cases k4 : K = 4
  · subst k4
    by_cases g : R.grey = []
    · exact did_done_none s q R w hR N g
    · exact did_done s q R w hR N _ _ (List.dropLast_concat_getLast g).symm
  by_cases k5 : K = 5
  · subst k5
    by_cases g : R.frm = [] ∧ R.grey = []
    · exact did_begin s q R w hR N g.1 g.2
    · exact did_begin_not s q R w hR N g
  by_cases k6 : K = 6
  · subst k6
    by_cases g : R.grey = []
    · exact did_end s q R w hR N g
    · exact did_end_not s q R w hR N g
  by_cases g : R.white = []
  · by_cases k1 : K = 1
    · subst k1
      exact did_alloc_full s q R w hR N g
    · exact did_drop_full s q R w hR K N (by omega) g
  obtain ⟨c, l, hcl⟩ := List.exists_cons_of_ne_nil g
  by_cases k1 : K = 1
  · subst k1
    exact did_alloc s q R w hR N c l hcl
  · exact did_drop s q R w hR K N (by omega) c l hcl

theorem after_len (n : Nat) (K N : Int) (R : Rows) : (after n K N R).all.length ≤ R.all.length + 1 := by
  have e : ∀ Q : Rows, Q.all.length = Q.white.length + Q.frm.length + Q.grey.length + Q.black.length := fun Q => by unfold Rows.all; simp; omega
  rw [e, e]
  unfold after
  split
  · split
    · simp [Rows.grow] <;> omega
    · omega
  split
  · split
    · omega
    · have := List.length_erase_le (a := shadedAt N R) (l := R.frm)
      simp [Rows.shade]
      omega
  split
  · omega
  split
  · split
    · omega
    · simp [Rows.done] <;> omega
  split
  · split
    · rename_i h
      simp [Rows.begin, h.1, h.2]
    · omega
  split
  · split
    · simp [Rows.fin] <;> omega
    · omega
  split
  · omega
  split
  · simp [Rows.alloc] <;> omega
  · simp [Rows.drop] <;> omega

/-- A ring lies on where the document's alone has turned. -/
theorem Ring.one {s : Spot} {R : Rows} {w w' : World} {q n : Nat} {Q : Rows} (h : Ring s R w) (hq : Ref w q n Q) (h1 : s.p ≠ q) (h2 : s.d ≠ q) (ho : One q w w') : Ring s R w' := by
  obtain ⟨C, F, D, hL, hI⟩ := h
  obtain ⟨v, hO⟩ := hq.op
  obtain ⟨a0, s0, e0, -⟩ := hO.row 0 (by decide)
  have q0 := hO.cell 0 (by decide)
  rw [e0] at q0
  have n1 : s.r ≠ q := fun e => by have := hL.arena; rw [e, q0] at this; cases this
  have n2 : s.a1 ≠ q := fun e => by have := hL.ba1; rw [e, q0] at this; cases this
  have n3 : s.n1 ≠ q := fun e => by have := hL.bn1; rw [e, q0] at this; cases this
  have n4 : s.a2 ≠ q := fun e => by have := hL.ba2; rw [e, q0] at this; cases this
  have n5 : s.n2 ≠ q := fun e => by have := hL.bn2; rw [e, q0] at this; cases this
  obtain ⟨u1, u2, u3, u4, u5, u6, u7⟩ := hL.under
  refine ⟨C, F, D, hL.same ho.size fun b hb => ?_, hI⟩
  rcases hb with rfl | rfl | rfl | rfl | rfl | rfl | rfl
  · exact ho.block _ u1 n1
  · exact ho.block _ u2 h1
  · exact ho.block _ u3 h2
  · exact ho.block _ u4 n2
  · exact ho.block _ u5 n3
  · exact ho.block _ u6 n4
  · exact ho.block _ u7 n5

theorem eq_told (c : Int) (b : Bool) (e : Int) (w : World) :
    (Op.equalIn 10000 34 (.agg #[.int .i64 c, .bool b, .int .i64 e]) (.agg #[.int .i64 c, .bool b, .int .i64 e])).run Try.prog w = .ok true w := by
  have hf : Try.prog.underlying 34 = some (.struct (Try.prog.fieldsOf 34)) := by kernel_rfl
  have q : ∀ (x y : Int) (w : World), (Op.equalIn 9999 3 (.int .i64 x) (.int .i64 y)).run Try.prog w = .ok (x == y) w := fun x y w => run_equalIn_int w 9998 3 .i64 .i64 x y Try.underlying3
  have qb : ∀ (x y : Bool) (w : World), (Op.equalIn 9999 4 (.bool x) (.bool y)).run Try.prog w = .ok (x == y) w := fun x y w => by
    have hu : Try.prog.underlying 4 = some .bool := Try.underlying4
    rw [Op.equalIn]
    simp [run_underlying hu, go_sem]
  rw [run_equalIn_struct w 9999 34 _ _ hf (by kernel_rfl)]
  generalize hE : Op.equalIn 9999 3 = E at *
  generalize hE' : Op.equalIn 9999 4 = E' at *
  have p0 : ∀ (w : World), (part 3 #[.int .i64 c, .bool b, .int .i64 e] 0).run Try.prog w = .ok (.int .i64 c) w := by intro w; simp [part, Try.isAgg3, go_sem]
  have p1 : ∀ (w : World), (part 4 #[.int .i64 c, .bool b, .int .i64 e] 1).run Try.prog w = .ok (.bool b) w := by intro w; simp [part, Try.isAgg4, go_sem]
  have p2 : ∀ (w : World), (part 3 #[.int .i64 c, .bool b, .int .i64 e] 2).run Try.prog w = .ok (.int .i64 e) w := by intro w; simp [part, Try.isAgg3, go_sem]
  have hl : (Try.prog.fieldsOf 34).toList = [⟨"Cell", 3, 0, false, "", "", 0⟩, ⟨"Is", 4, 1, false, "", "", 8⟩, ⟨"Err", 3, 2, false, "", "", 16⟩] := by kernel_rfl
  rw [hl]
  simp [Op.eqFields, hE, hE', p0, p1, p2, q, qb]

end Go.Proofs.Ytbjlpmjalidfkaa
