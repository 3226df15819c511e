/- Give: refused, twice, or free again. -/
import Derived.Test.YtbjlpmjalidfkaaExG
import Derived.Test.YtbjlpmjalidfkaaExH
namespace Go.Proofs.Ytbjlpmjalidfkaa.Ex
open Go.RowKit Go.Sort

theorem has_regrown (a n b m : Int) (W : World) (d : Nat) (os : Array Obj) (r : Bool) (hr : decide (1 ≤ m ∧ a ≤ b ∧ b + m ≤ a + n) = r) (h0 : 0 ≤ a) (h1 : a ≤ 1000000) (h2 : 0 ≤ n) (h3 : n ≤ 1000000) (hb : b ≤ 9223372036854775807) :
    Calls Try.prog 92 #[.agg #[.int .i64 a, .int .i64 n], .agg #[.int .i64 b, .int .i64 m]] (grow (redrawn W d) os) fun e w'' => e = .returned (.bool r) ∧ ∃ p : Regrown, w'' = grow (redrawn W p.d) p.os := by
  subst hr
  exact Calls.regrown_of (has_any a n b m _ h0 h1 h2 h3 hb)

/-- What a give leaves: the runs, joined behind and ahead; in the old row or in a new one. -/
def Gave (w w' : World) (p g : Nat) (F N : Int) (A : List (Int × Int)) (a n : Int) (B : List (Int × Int)) : Prop :=
  ∃ g' cap' m B' M, giveB A (a, n) B = A ++ (a, m) :: B' ∧ At w' p g' cap' F N M ∧ Apart p g w w' ∧ (g' = g ∨ w.heap.size ≤ g') ∧
    ((A = [] ∧ M = (a, m) :: B') ∨ ∃ A' z, A = A' ++ [z] ∧ M = joined A' z (a, m) B')

theorem bounds_of_good {lo hi : Int} {L : List (Int × Int)} (h : Good lo hi L) (h0 : 0 ≤ lo) (h1 : hi ≤ 1000000) : ∀ x, x ∈ L → 0 ≤ x.1 ∧ 0 ≤ x.2 ∧ x.1 + x.2 ≤ 1000000 := fun x hx => by
  have := good_mem h hx
  omega

/-- The join behind the run that was given. -/
theorem join_first (p g cap i : Nat) (F N : Int) (A : List (Int × Int)) (a n : Int) (B : List (Int × Int)) (w : World) (hA : At w p g cap F N (A ++ (a, n) :: B)) (hi : A.length = i) (hsmall : (A ++ (a, n) :: B).length ≤ 100000)
    (ha : 0 ≤ a) (hn : 0 ≤ n) (han : a + n ≤ 1000000) (hB : ∀ x, x ∈ B → 0 ≤ x.1 ∧ 0 ≤ x.2 ∧ x.1 + x.2 ≤ 1000000) :
    Calls Try.prog 97 #[.pointer (some ⟨p, 0, none⟩), .int .i64 i] w fun e w' => e = .returned (.tuple #[]) ∧ At w' p g cap F N (giveB A (a, n) B) ∧ Apart p g w w' := by
  cases B with
  | nil =>
    refine (join_last p g cap i F N _ w hA (by simp; omega) (by simp at hsmall; omega)).mono ?_
    rintro e w' ⟨rfl, rfl⟩
    exact ⟨rfl, hA, Apart.refl _ _ _⟩
  | cons y B =>
    have := hB y List.mem_cons_self
    exact join_two p g cap i F N A B a n y.1 y.2 w hA hi hsmall ha hn han (by omega) (by omega)

/-- .. and the one ahead of it. -/
theorem join_second (p g cap i : Nat) (F N : Int) (A : List (Int × Int)) (a m : Int) (B : List (Int × Int)) (w : World) (hA : At w p g cap F N (A ++ (a, m) :: B)) (hi : A.length = i) (hsmall : (A ++ (a, m) :: B).length ≤ 100000)
    (hm : 0 ≤ m) (hm2 : m ≤ 1000000) (hL : ∀ x, x ∈ A → 0 ≤ x.1 ∧ 0 ≤ x.2 ∧ x.1 + x.2 ≤ 1000000) :
    Calls Try.prog 97 #[.pointer (some ⟨p, 0, none⟩), .int .i64 ((i : Int) - 1)] w fun e w' => e = .returned (.tuple #[]) ∧ ∃ M, At w' p g cap F N M ∧ Apart p g w w' ∧ ((A = [] ∧ M = (a, m) :: B) ∨ ∃ A' z, A = A' ++ [z] ∧ M = joined A' z (a, m) B) := by
  rcases List.eq_nil_or_concat A with rfl | ⟨A', z, rfl⟩
  · obtain rfl : i = 0 := by simpa using hi.symm
    refine (join_less ⟨p, 0, none⟩ _ w (by omega)).mono ?_
    rintro e w' ⟨rfl, rfl⟩
    exact ⟨rfl, _, hA, Apart.refl _ _ _, Or.inl ⟨rfl, rfl⟩⟩
  · have hi2 : A'.length + 1 = i := by simpa using hi
    have hz := hL z (by simp)
    rw [show (i : Int) - 1 = (A'.length : Int) by omega]
    have e : (A' ++ [z]) ++ (a, m) :: B = A' ++ (z.1, z.2) :: (a, m) :: B := by simp
    rw [List.concat_eq_append] at hA hsmall ⊢
    rw [e] at hA hsmall
    refine (join_two p g cap A'.length F N A' B z.1 z.2 a m w hA rfl hsmall (by omega) (by omega) (by omega) hm hm2).mono ?_
    rintro e w' ⟨rfl, h1, h2⟩
    exact ⟨rfl, _, h1, h2, Or.inr ⟨A', z, rfl, rfl⟩⟩

/-- What Insert and the struct's store leave. -/
structure Put (W3 W4 : World) (p g : Nat) (F N : Int) (M : List (Int × Int)) (g' cap' n : Nat) : Prop where
  cell : ∃ L cap, W4.cell? ⟨p, 2, none⟩ = some (.slice (some ⟨g, 0, none⟩) L cap)
  frz : W4.frozen? ⟨p, 2, none⟩ = false
  lies : At (W4.setCell ⟨p, 2, none⟩ (.slice (some ⟨g', 0, none⟩) n cap')) p g' cap' F N M
  apart : Apart p g W3 (W4.setCell ⟨p, 2, none⟩ (.slice (some ⟨g', 0, none⟩) n cap'))
  new : g' = g ∨ W3.heap.size ≤ g'
theorem len_giveB {A B B' : List (Int × Int)} {a n k : Int} (h : giveB A (a, n) B = A ++ (a, k) :: B') (hs : (A ++ (a, n) :: B).length ≤ 100000) : (A ++ (a, k) :: B').length ≤ 100000 := by
  rw [← h]
  cases B with
  | nil => simpa [giveB] using hs
  | cons y B =>
    simp only [giveB, joined]
    split <;> simp at hs ⊢ <;> omega
theorem insert_at (p g cap i m : Nat) (F N : Int) (A B : List (Int × Int)) (a n : Int) (W3 W : World) (hA : At W3 p g cap F N (A ++ B)) (hi : A.length = i) (hm : (A ++ B).length = m) (hmb : m ≤ 90000)
    (hv : W.heap[W3.heap.size]? = some (.cells #[.int .i64 a, .int .i64 n] 145 (0, 0))) (hb : Below W3.heap.size W3 W) :
    Calls Try.prog 96 #[.slice (some ⟨g, 0, none⟩) m cap, .int .i64 i, .slice (some ⟨W3.heap.size, 0, none⟩) 1 1] W fun e w' => ∃ g' cap', e = .returned (.slice (some ⟨g', 0, none⟩) (m + 1) cap') ∧ Put W3 w' p g F N (A ++ (a, n) :: B) g' cap' (m + 1) := by
  have hA1 := hA.later hb
  have lg := hA.lg
  refine (insert_any W g cap i m W3.heap.size A B a n hA1.own hi (by rw [← hm, ← hi]; simp) (by rw [← hm, ← hi]; simp) (by omega) hv (by omega)).mono ?_
  rintro e w' ⟨g', cap', rfl, hO, hg, hat⟩
  have hbl : w'.heap[p]? = W.heap[p]? := hg.block p hA1.lp (by simpa using hA.ne)
  refine ⟨g', cap', rfl, ⟨_, _, (World.cell?_of_block (w := W) (a := ⟨p, 2, none⟩) hbl).trans hA1.free⟩, (World.frozen?_of_block (w := W) (a := ⟨p, 2, none⟩) hbl).trans hA1.fz, hA1.told hg hO hat _ ?_, ?_, ?_⟩
  · rw [← hm]; simp; omega
  · exact (Apart.of_below hb).trans (Apart.told hg _)
  · have := hb.size
    omega

set_option maxHeartbeats 4000000 in
set_option maxRecDepth 100000 in
/-- Not all of the room's places, or none: refused. -/
theorem give_range (p : Nat) (F N a n : Int) (w : World) (hf : w.cell? ⟨p, 0, none⟩ = some (.int .i64 F)) (hN : w.cell? ⟨p, 1, none⟩ = some (.int .i64 N)) (h0 : 0 ≤ F) (h1 : F ≤ 1000000) (h2 : 0 ≤ N) (h3 : N ≤ 1000000) (ha : a ≤ 9223372036854775807) (hr : ¬ (1 ≤ n ∧ F ≤ a ∧ a + n ≤ F + N)) :
    Calls Try.prog 68 #[.pointer (some ⟨p, 0, none⟩), .int .i64 a, .int .i64 n] w fun e w' => e = .returned (.int .i64 1) ∧ Below w.heap.size w w' := by
  have hb := ((Below.refl w.heap.size w).alloc (Nat.le_refl _) (.cells #[.int .i64 a, .int .i64 n] 145))
  have hf := later hb hf
  have hN := later hb hN
  have lp := World.block_lt_of_cell? _ _ hf
  have c0 : (w.alloc (.cells #[.int .i64 a, .int .i64 n] 145)).cell? ⟨w.heap.size, 0, none⟩ = some (.int .i64 a) := by simp [go_sem]
  have c1 : (w.alloc (.cells #[.int .i64 a, .int .i64 n] 145)).cell? ⟨w.heap.size, 1, none⟩ = some (.int .i64 n) := by simp [go_sem]
  have HR : Hid (decide (1 ≤ n ∧ F ≤ a ∧ a + n ≤ F + N) = false) := by show _ = _; simp; omega
  clear hr
  go_enter Try.func68, Try.ntmps68
  go_wp2_with fail
  generalize hW : (w.alloc (.cells #[.int .i64 a, .int .i64 n] 145)) = W at hb hf hN c0 c1 ⊢
  clear hW
  have k0 := cell_regrown hf
  have k1 := cell_regrown hN
  have k2 := cell_regrown c0
  have k3 := cell_regrown c1
  refine wp_region_quiet_below (by kernel_rfl) (by kernel_rfl) ?_
  repeat (first | go_big_quiet_skip | (quiet_step (exact has_regrown F N a n _ _ _ false HR.out h0 h1 h2 h3 ha)))
  refine wpQuiet_nil ?_
  intro _ hw'
  obtain ⟨⟨dq, osq⟩, hw''⟩ := hw'
  subst hw''
  have hE := onB hb (below_regrown W dq osq)
  clear k0 k1 k2 k3 hb
  go_wp2_with fail
  go_ret
  exact ⟨rfl, hE⟩

set_option maxHeartbeats 4000000 in
set_option maxRecDepth 100000 in
/-- One of them is free: twice. -/
theorem give_twice (p g cap : Nat) (F N a n : Int) (A B : List (Int × Int)) (x : Int × Int) (w : World) (hA : At w p g cap F N (A ++ x :: B)) (h0 : 0 ≤ F) (h1 : F ≤ 100000) (h2 : 0 ≤ N) (h3 : N ≤ 100000) (hr : 1 ≤ n ∧ F ≤ a ∧ a + n ≤ F + N)
    (hL : ∀ y, y ∈ A ++ x :: B → 0 ≤ y.1 ∧ 0 ≤ y.2 ∧ y.1 + y.2 ≤ 1000000) (hlo : ∀ y, y ∈ A → (decide (a < y.1 + y.2) && decide (y.1 < a + n)) = false) (hx : (decide (a < x.1 + x.2) && decide (x.1 < a + n)) = true) :
    Calls Try.prog 68 #[.pointer (some ⟨p, 0, none⟩), .int .i64 a, .int .i64 n] w fun e w' => e = .returned (.int .i64 5) ∧ Below w.heap.size w w' := by
  have hf := hA.first
  have hN := hA.places
  have an1 : a + n ≤ 1000000 := by omega
  replace h1 : F ≤ 1000000 := by omega
  replace h3 : N ≤ 1000000 := by omega
  have hb := ((Below.refl w.heap.size w).alloc (Nat.le_refl _) (.cells #[.int .i64 a, .int .i64 n] 145))
  have hf := later hb hf
  have hN := later hb hN
  have lp := World.block_lt_of_cell? _ _ hf
  have c0 : (w.alloc (.cells #[.int .i64 a, .int .i64 n] 145)).cell? ⟨w.heap.size, 0, none⟩ = some (.int .i64 a) := by simp [go_sem]
  have c1 : (w.alloc (.cells #[.int .i64 a, .int .i64 n] 145)).cell? ⟨w.heap.size, 1, none⟩ = some (.int .i64 n) := by simp [go_sem]
  have HR : Hid (decide (1 ≤ n ∧ F ≤ a ∧ a + n ≤ F + N) = true) := by show _ = _; simp; omega
  have ha : a ≤ 9223372036854775807 := by omega
  have an0 : 0 ≤ a := by omega
  have n0 : 0 ≤ n := by omega
  have HA := Lib.hid hA
  obtain ⟨m, hm⟩ : ∃ m, (A ++ x :: B).length = m := ⟨_, rfl⟩
  have HM := Lib.hid hm
  have HL := Lib.hid hL
  have HLO := Lib.hid hlo
  have HX := Lib.hid hx
  clear hlo hx
  clear hr hA hm hL
  go_enter Try.func68, Try.ntmps68
  go_wp2_with fail
  generalize hW : (w.alloc (.cells #[.int .i64 a, .int .i64 n] 145)) = W at hb hf hN c0 c1 ⊢
  clear hW
  have k0 := cell_regrown hf
  have k1 := cell_regrown hN
  have k2 := cell_regrown c0
  have k3 := cell_regrown c1
  refine wp_region_quiet_below (by kernel_rfl) (by kernel_rfl) ?_
  repeat (first | go_big_quiet_skip | (quiet_step (exact has_regrown F N a n _ _ _ true HR.out h0 h1 h2 h3 ha)))
  refine wpQuiet_nil ?_
  intro _ hw'
  obtain ⟨⟨dq, osq⟩, hw''⟩ := hw'
  subst hw''
  have hE := onB hb (below_regrown W dq osq)
  replace c0 := k2 dq osq
  replace c1 := k3 dq osq
  clear k0 k1 k2 k3 hb hf hN
  generalize grow (redrawn W dq) osq = W1 at hE c0 c1 ⊢
  go_wp2_with fail
  have hA1 := HA.out.later hE
  have hf := hA1.free
  rw [HM.out] at hf
  have k0 := cell_regrown hf
  have k2 := cell_regrown c0
  have k3 := cell_regrown c1
  have cC : ∀ d os, Calls Try.prog 93 #[.slice (some ⟨g, 0, none⟩) m cap, .func (.func 94) #[.agg #[.int .i64 a, .int .i64 n]] #[]] (grow (redrawn W1 d) os) fun e w'' => e = .returned (.bool true) ∧ ∃ p : Regrown, w'' = grow (redrawn W1 p.d) p.os := fun d os =>
    Calls.regrown_of (contains_hit _ 94 (.agg #[.int .i64 a, .int .i64 n]) (fun x => decide (a < x.1 + x.2) && decide (x.1 < a + n)) enters_meets g cap m A.length A B x (hA1.later (below_regrown W1 d os)).own (asks_meets a n _ _ an0 n0 an1 HL.out) HM.out rfl HLO.out HX.out)
  have HC := Lib.hid cC
  have HA1 := Lib.hid hA1
  clear cC hA1
  refine wp_region_quiet_below (by kernel_rfl) (by kernel_rfl) ?_
  repeat (first | go_big_quiet_skip | (quiet_step (exact HC.out _ _)))
  refine wpQuiet_nil ?_
  intro _ hw'
  obtain ⟨⟨dr, osr⟩, hw''⟩ := hw'
  subst hw''
  have hE2 := onB hE (below_regrown W1 dr osr)
  have c0 := k2 dr osr
  have c1 := k3 dr osr
  clear k0 k2 k3 hE hf HC HA1
  go_wp2_with fail
  go_ret
  exact ⟨rfl, hE2⟩

set_option maxHeartbeats 4000000 in
set_option maxRecDepth 100000 in
/-- None of them is free: they are now. -/
theorem give_ok (p g cap i : Nat) (F N a n : Int) (A B : List (Int × Int)) (w : World) (hA : At w p g cap F N (A ++ B)) (h0 : 0 ≤ F) (h1 : F ≤ 100000) (h2 : 0 ≤ N) (h3 : N ≤ 100000) (hr : 1 ≤ n ∧ F ≤ a ∧ a + n ≤ F + N) (hi : A.length = i) (hsmall : (A ++ B).length ≤ 90000)
    (hL : ∀ x, x ∈ A ++ B → 0 ≤ x.1 ∧ 0 ≤ x.2 ∧ x.1 + x.2 ≤ 1000000) (hno : ∀ y, y ∈ A ++ B → (decide (a < y.1 + y.2) && decide (y.1 < a + n)) = false) (hlt : ∀ x, x ∈ A → x.1 ≤ a) (hgt : ∀ y B', B = y :: B' → a < y.1) (hGB : Good (a + n) (F + N) B) :
    Calls Try.prog 68 #[.pointer (some ⟨p, 0, none⟩), .int .i64 a, .int .i64 n] w fun e w' => e = .returned (.int .i64 0) ∧ Gave w w' p g F N A a n B := by
  have hf := hA.first
  have hN := hA.places
  have hpg := hA.ne
  have lg := hA.lg
  have lpw := hA.lp
  have an1 : a + n ≤ 1000000 := by omega
  have fn : F + N ≤ 1000000 := by omega
  replace h1 : F ≤ 1000000 := by omega
  replace h3 : N ≤ 1000000 := by omega
  have hb := ((Below.refl w.heap.size w).alloc (Nat.le_refl _) (.cells #[.int .i64 a, .int .i64 n] 145))
  have hf := later hb hf
  have hN := later hb hN
  have lp := World.block_lt_of_cell? _ _ hf
  have c0 : (w.alloc (.cells #[.int .i64 a, .int .i64 n] 145)).cell? ⟨w.heap.size, 0, none⟩ = some (.int .i64 a) := by simp [go_sem]
  have c1 : (w.alloc (.cells #[.int .i64 a, .int .i64 n] 145)).cell? ⟨w.heap.size, 1, none⟩ = some (.int .i64 n) := by simp [go_sem]
  have HR : Hid (decide (1 ≤ n ∧ F ≤ a ∧ a + n ≤ F + N) = true) := by show _ = _; simp; omega
  have ha : a ≤ 9223372036854775807 := by omega
  have an0 : 0 ≤ a := by omega
  have n0 : 0 ≤ n := by omega
  have HA := Lib.hid hA
  obtain ⟨m, hm⟩ : ∃ m, (A ++ B).length = m := ⟨_, rfl⟩
  have HM := Lib.hid hm
  have HL := Lib.hid hL
  have him : i ≤ m := by rw [← hm, ← hi]; simp
  have hmb : m ≤ 90000 := by rw [← hm]; exact hsmall
  have HI := Lib.hid hi
  have hr1 : 1 ≤ n := hr.1
  have an2 : a + n ≤ F + N := by omega
  have HSM := Lib.hid (show (A ++ (a, n) :: B).length ≤ 100000 by have h := hsmall; simp at h ⊢; omega)
  have HBB := Lib.hid (fun x (hx : x ∈ B) => hL x (List.mem_append_right _ hx))
  have HLA := Lib.hid (fun x (hx : x ∈ A) => hL x (List.mem_append_left _ hx))
  have HNO := Lib.hid hno
  have HLT := Lib.hid hlt
  have HGT := Lib.hid hgt
  clear hno hlt hgt hi hsmall
  clear hr hA hm hL
  go_enter Try.func68, Try.ntmps68
  go_wp2_with fail
  generalize hW : (w.alloc (.cells #[.int .i64 a, .int .i64 n] 145)) = W at hb hf hN c0 c1 ⊢
  clear hW
  have k0 := cell_regrown hf
  have k1 := cell_regrown hN
  have k2 := cell_regrown c0
  have k3 := cell_regrown c1
  refine wp_region_quiet_below (by kernel_rfl) (by kernel_rfl) ?_
  repeat (first | go_big_quiet_skip | (quiet_step (exact has_regrown F N a n _ _ _ true HR.out h0 h1 h2 h3 ha)))
  refine wpQuiet_nil ?_
  intro _ hw'
  obtain ⟨⟨dq, osq⟩, hw''⟩ := hw'
  subst hw''
  have hE := onB hb (below_regrown W dq osq)
  replace c0 := k2 dq osq
  replace c1 := k3 dq osq
  clear k0 k1 k2 k3 hb hf hN
  generalize grow (redrawn W dq) osq = W1 at hE c0 c1 ⊢
  go_wp2_with fail
  have hA1 := HA.out.later hE
  have hf := hA1.free
  rw [HM.out] at hf
  have k0 := cell_regrown hf
  have k2 := cell_regrown c0
  have k3 := cell_regrown c1
  have cC : ∀ d os, Calls Try.prog 93 #[.slice (some ⟨g, 0, none⟩) m cap, .func (.func 94) #[.agg #[.int .i64 a, .int .i64 n]] #[]] (grow (redrawn W1 d) os) fun e w'' => e = .returned (.bool false) ∧ ∃ p : Regrown, w'' = grow (redrawn W1 p.d) p.os := fun d os =>
    Calls.regrown_of (contains_miss _ 94 (.agg #[.int .i64 a, .int .i64 n]) (fun x => decide (a < x.1 + x.2) && decide (x.1 < a + n)) enters_meets g cap m (A ++ B) (hA1.later (below_regrown W1 d os)).own (asks_meets a n _ _ an0 n0 an1 HL.out) HM.out HNO.out)
  have HC := Lib.hid cC
  have HA1 := Lib.hid hA1
  clear cC hA1
  refine wp_region_quiet_below (by kernel_rfl) (by kernel_rfl) ?_
  repeat (first | go_big_quiet_skip | (quiet_step (exact HC.out _ _)))
  refine wpQuiet_nil ?_
  intro _ hw'
  obtain ⟨⟨dr, osr⟩, hw''⟩ := hw'
  subst hw''
  have hE2 := onB hE (below_regrown W1 dr osr)
  have c0 := k2 dr osr
  have c1 := k3 dr osr
  clear k0 k2 k3 hE hf HC HA1
  generalize grow (redrawn W1 dr) osr = W2 at hE2 c0 c1 ⊢
  go_wp2_with fail
  refine (indexFor_any p g cap i F N A B a n W2 (HA.out.later hE2) HI.out HLT.out HGT.out).mono ?_
  rintro e W3 ⟨rfl, hb⟩
  replace c0 := later hb c0
  replace c1 := later hb c1
  have hE3 := onB hE2 hb
  clear hb hE2
  have hA3 := HA.out.later hE3
  have hf := hA3.free
  rw [HM.out] at hf
  have fz := hA3.fz
  have lp3 := hA3.lp
  have lg3 := hA3.lg
  have HA3 := Lib.hid hA3
  have HE3 := Lib.hid hE3
  clear hA3 hE3
  have hw1 : IntKind.i64.wrap ((i : Int) - 1) = (i : Int) - 1 := by rw [IntKind.wrap_i64]; omega
  go_wp2_with fail
  have HIN := Lib.hid (insert_at p g cap i m F N A B a n W3 (W3.alloc (.cells #[.int .i64 a, .int .i64 n] 145)).drew HA3.out HI.out HM.out hmb (heap_alloc_new W3 _) (((Below.refl _ _).alloc (Nat.le_refl _) _).drew))
  go_region_with (go_at_call 96; refine HIN.out.mono ?_; rintro e W4 ⟨g', cap', rfl, hT⟩; obtain ⟨L4, cap4, f4⟩ := hT.cell; have z4 := hT.frz)
  all_goals
    have hE4 := hT.lies
    have hQ4 := hT.apart
    have hat := hT.new
    have HQ4 := Lib.hid ((Apart.of_below (p := p) (d := g) HE3.out).trans hQ4)
    have hb4 := HE3.out.size
    have HE4 := Lib.hid hE4
    have lp4 := hE4.lp
    clear hT f4 z4 hE4 hQ4 c0 c1 hf fz
    obtain ⟨k, B', hgB, hk1, hk2, hGB', _, _⟩ := give_good (A := A) hGB hr1 an2
    have HGB := Lib.hid hgB
    clear hgB hGB'
    go_wp2_with fail
    refine (join_first p g' cap' i F N A a n B _ HE4.out HI.out HSM.out an0 n0 an1 HBB.out).mono ?_
    rintro e W6 ⟨rfl, hE6, hQ6⟩
    rw [HGB.out] at hE6
    have hQ := HQ4.out.step hQ6 (by omega)
    have HE6 := Lib.hid hE6
    have HQ := Lib.hid hQ
    have HSM2 := Lib.hid (len_giveB HGB.out HSM.out)
    clear hE6 hQ6 hQ
    go_wp2_with fail
    refine (join_second p g' cap' i F N A a k B' _ HE6.out HI.out HSM2.out (by omega) (by omega) HLA.out).mono ?_
    rintro e W7 ⟨rfl, M, hE7, hQ7, hM⟩
    have hQ := HQ.out.step hQ7 (by omega)
    have HF := Lib.hid (show Gave w W7 p g F N A a n B from ⟨g', cap', k, B', M, HGB.out, hE7, hQ, by omega, hM⟩)
    clear hE7 hQ7 hM hQ
    go_wp2_with fail
    go_ret
    exact ⟨rfl, HF.out⟩

end Go.Proofs.Ytbjlpmjalidfkaa.Ex
