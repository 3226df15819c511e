/- The program's own word of an object, and the object of a word: what is answered, whatever is asked. -/
import Derived.Test.YtbjlpmjalidfkaaCeB
namespace Go.Proofs.Ytbjlpmjalidfkaa.Ce
open Go.RowKit Go.Sort

theorem eq_obj' (d : Nat) (k s a m k' s' a' m' : Int) (w : World) :
    (Op.equalIn (d + 2) 69 (.agg #[.int .i64 k, .int .i64 s, .int .i64 a, .int .i64 m]) (.agg #[.int .i64 k', .int .i64 s', .int .i64 a', .int .i64 m'])).run Try.prog w = .ok (k == k' && s == s' && a == a' && m == m') w := by
  have hf : Try.prog.underlying 69 = some (.struct (Try.prog.fieldsOf 69)) := by kernel_rfl
  have q : ∀ (x y : Int) (w : World), (Op.equalIn (d + 1) 3 (.int .i64 x) (.int .i64 y)).run Try.prog w = .ok (x == y) w := fun x y w => run_equalIn_int w d 3 .i64 .i64 x y Try.underlying3
  rw [run_equalIn_struct w (d + 1) 69 _ _ hf (by kernel_rfl)]
  generalize hE : Op.equalIn (d + 1) 3 = E at *
  have p0 : ∀ (x y z u : Int) (w : World), (part 3 #[.int .i64 x, .int .i64 y, .int .i64 z, .int .i64 u] 0).run Try.prog w = .ok (.int .i64 x) w := by intro x y z u w; simp [part, Try.isAgg3, go_sem]
  have p1 : ∀ (x y z u : Int) (w : World), (part 3 #[.int .i64 x, .int .i64 y, .int .i64 z, .int .i64 u] 1).run Try.prog w = .ok (.int .i64 y) w := by intro x y z u w; simp [part, Try.isAgg3, go_sem]
  have p2 : ∀ (x y z u : Int) (w : World), (part 3 #[.int .i64 x, .int .i64 y, .int .i64 z, .int .i64 u] 2).run Try.prog w = .ok (.int .i64 z) w := by intro x y z u w; simp [part, Try.isAgg3, go_sem]
  have p3 : ∀ (x y z u : Int) (w : World), (part 3 #[.int .i64 x, .int .i64 y, .int .i64 z, .int .i64 u] 3).run Try.prog w = .ok (.int .i64 u) w := by intro x y z u w; simp [part, Try.isAgg3, go_sem]
  have hl : (Try.prog.fieldsOf 69).toList = [⟨"Kind", 3, 0, false, "", "", 0⟩, ⟨"Size", 3, 1, false, "", "", 8⟩, ⟨"Aux", 3, 2, false, "", "", 16⟩, ⟨"Mark", 3, 3, false, "", "", 24⟩] := by kernel_rfl
  rw [hl]
  by_cases h1 : k = k' <;> by_cases h2 : s = s' <;> by_cases h3 : a = a' <;> by_cases h4 : m = m' <;> simp [Op.eqFields, hE, h1, h2, h3, h4, p0, p1, p2, p3, q]
theorem eq_obj (k s a m k' s' a' m' : Int) (w : World) :
    (Op.equalIn 10000 69 (.agg #[.int .i64 k, .int .i64 s, .int .i64 a, .int .i64 m]) (.agg #[.int .i64 k', .int .i64 s', .int .i64 a', .int .i64 m'])).run Try.prog w = .ok (k == k' && s == s' && a == a' && m == m') w :=
  eq_obj' 9998 k s a m k' s' a' m' w

set_option maxHeartbeats 400000 in
set_option maxRecDepth 100000 in
theorem join_raw (k s a m : Int) (w : World) :
    Calls Try.prog 82 #[.agg #[.int .i64 k, .int .i64 s, .int .i64 a, .int .i64 m]] w fun e w' => e = .returned (.int .i64 (IntKind.i64.wrap (jn k s a m))) ∧ Below w.heap.size w w' := by
  go_enter Try.func82, Try.ntmps82
  go_wp2
  go_ret
  refine ⟨?_, (Below.refl _ w).alloc (Nat.le_refl _) _⟩
  refine ret_i64 ?_
  rw [IntKind.wrap_i64]
  unfold jn wrap64
  omega

/-- What is split off a word is the same as an object. -/
def again (w k s a m : Int) : Bool := kb w == k && sb w == s && ab w == a && mb w == m

theorem split_regrown (n : Int) (W : World) (d : Nat) (os : Array Obj) (h : InR n) :
    Calls Try.prog 83 #[.int .i64 n] (grow (redrawn W d) os) fun e w'' => e = .returned (.agg #[.int .i64 (kb n), .int .i64 (sb n), .int .i64 (ab n), .int .i64 (mb n)]) ∧ ∃ p : Regrown, w'' = grow (redrawn W p.d) p.os :=
  Calls.regrown_of (split_any n _ h)

theorem again_ok {k s a m w : Int} (h : Fit k s a m) (hw : w = jn k s a m) : again w k s a m = true := by
  obtain ⟨h1, h2, h3, h4⟩ := parts_of h hw
  unfold again; simp [h1, h2, h3, h4]
theorem again_bad {k s a m w : Int} (hk : ¬ (k < 0 ∨ 10 < k)) (h : ¬ Fit k s a m) : again w k s a m = false := by
  cases hq : again w k s a m with
  | false => rfl
  | true =>
    unfold again at hq
    simp only [Bool.and_eq_true, beq_iff_eq, and_assoc] at hq
    exact (h (fit_of w hk hq)).elim
theorem wrap_in (n : Int) : InR (IntKind.i64.wrap n) := by rw [IntKind.wrap_i64]; unfold InR; omega
theorem wrap_fit {k s a m : Int} (h : Fit k s a m) : IntKind.i64.wrap (jn k s a m) = jn k s a m := by
  have := jn_range h
  rw [IntKind.wrap_i64]; omega

set_option maxHeartbeats 400000 in
set_option maxRecDepth 100000 in
theorem pack_kind (k s a m : Int) (w : World) (h : k < 0 ∨ 10 < k) :
    Calls Try.prog 57 #[.agg #[.int .i64 k, .int .i64 s, .int .i64 a, .int .i64 m]] w fun e w' => e = .returned (.tuple #[.int .i64 0, .int .i64 6]) ∧ Below w.heap.size w w' := by
  by_cases h0 : k < 0
  · go_enter Try.func57, Try.ntmps57
    go_wp2
    go_ret2
    exact ⟨rfl, (Below.refl _ w).alloc (Nat.le_refl _) _⟩
  · have h1 : 10 < k := by omega
    clear h
    go_enter Try.func57, Try.ntmps57
    go_wp2
    go_ret2
    exact ⟨rfl, (Below.refl _ w).alloc (Nat.le_refl _) _⟩

set_option maxHeartbeats 400000 in
set_option maxRecDepth 100000 in
theorem pack_in (k s a m : Int) (w : World) (h : ¬ (k < 0 ∨ 10 < k)) (b : Bool) (J : Int) (hJ : IntKind.i64.wrap (jn k s a m) = J) (hb : again J k s a m = b) :
    Calls Try.prog 57 #[.agg #[.int .i64 k, .int .i64 s, .int .i64 a, .int .i64 m]] w fun e w' => e = .returned (.tuple #[.int .i64 (if b then J else 0), .int .i64 (if b then 0 else 1)]) ∧ Below w.heap.size w w' := by
  have h0 : 0 ≤ k := by omega
  have h1 : k ≤ 10 := by omega
  clear h
  have HJ : InR J := hJ ▸ wrap_in _
  have hX := box_new w (.int .i64 k) (.int .i64 s) (.int .i64 a) (.int .i64 m) 69
  have hB := (Below.refl w.heap.size w).alloc (Nat.le_refl _) (.cells #[.int .i64 k, .int .i64 s, .int .i64 a, .int .i64 m] 69)
  have hjoin := fun W => join_raw k s a m W
  rw [hJ] at hjoin
  have HC := Lib.hid hjoin
  have he := fun W => eq_obj (kb J) (sb J) (ab J) (mb J) k s a m W
  have hb' : (kb J == k && sb J == s && ab J == a && mb J == m) = b := hb
  rw [hb'] at he
  have HE := Lib.hid he
  have HI := Lib.hid HJ
  clear hJ hjoin hb hb' he HJ
  go_enter Try.func57, Try.ntmps57
  go_wp2_with fail
  generalize w.alloc (.cells #[.int .i64 k, .int .i64 s, .int .i64 a, .int .i64 m] 69) = W0 at hB hX ⊢
  refine (HC.out _).mono ?_
  rintro e x1 ⟨rfl, hb⟩
  replace hB := onB hB hb
  replace hX := hX.later hb
  clear hb HC
  obtain ⟨c0, c1, c2, c3, f0, f1, f2, f3, hl⟩ := hX
  go_wp2_with fail
  have k0 := cell_regrown c0
  have k1 := cell_regrown c1
  have k2 := cell_regrown c2
  have k3 := cell_regrown c3
  have he := HE.out
  refine wp_region_quiet_below (by kernel_rfl) (by kernel_rfl) ?_
  repeat (first | go_big_quiet_skip | (quiet_step (exact split_regrown _ _ _ _ HI.out)))
  refine wpQuiet_nil ?_
  intro _ hw'
  obtain ⟨⟨dq, osq⟩, hw''⟩ := hw'
  subst hw''
  have hE := onB hB (below_regrown x1 dq osq)
  clear k0 k1 k2 k3 hB he
  cases b
  · go_wp2
    go_ret2
    exact ⟨rfl, hE⟩
  · go_wp2
    go_ret2
    exact ⟨rfl, hE⟩

theorem pack_any (k s a m : Int) (w : World) :
    Calls Try.prog 57 #[.agg #[.int .i64 k, .int .i64 s, .int .i64 a, .int .i64 m]] w fun e w' => e = .returned (.tuple #[.int .i64 (pw k s a m), .int .i64 (pe k s a m)]) ∧ Below w.heap.size w w' := by
  by_cases h : k < 0 ∨ 10 < k
  · rw [pw_kind h, pe_kind h]
    exact pack_kind k s a m w h
  · by_cases hf : Fit k s a m
    · rw [pw_ok hf, pe_ok hf]
      exact pack_in k s a m w h true _ (wrap_fit hf) (again_ok hf rfl)
    · rw [pw_range h hf, pe_range h hf]
      exact pack_in k s a m w h false _ rfl (again_bad h hf)
end Go.Proofs.Ytbjlpmjalidfkaa.Ce
