/- One use, whatever it is, of the arena and of the document's; the document's new one, and whether words are the same. -/
import Derived.Test.YtfkcmadnebeijaaArD
import Derived.BigQuiet
import Derived.Deep.QuietTactic
namespace Go.Proofs.Ytfkcmadnebeijaa
open Go.RowKit

theorem below_drewN (B : Nat) (w : World) (k : Nat) : Below B w (w.drewN k) := ⟨rfl, rfl, rfl, Nat.le_refl _, fun _ _ => rfl⟩

theorem do_any (p d n : Nat) (D : Nat → Int) (u K A X : Int) (w : World) (hA : At w p d n D u) :
    Calls Try.prog 10 #[.pointer (some ⟨p, 0, none⟩), .agg #[.int .i64 K, .int .i64 A, .int .i64 X]] w fun e w' =>
      e = .returned (.agg #[.int .i64 (dWord K A n D), .int .i64 (dErr A n)]) ∧ At w' p d n (dWords K A X n D) (dUses A n u) ∧ Apart p d w w' := by
  by_cases h : inr A n
  · by_cases hk : K = 0
    · have := do_load_in p d n D u K A X w hA hk h.1 h.2
      simpa [dWord, dErr, dWords, dUses, h, hk] using this
    · have := do_store_in p d n D u K A X w hA hk h.1 h.2
      simpa [dWord, dErr, dWords, dUses, h, hk] using this
  · by_cases hk : K = 0
    · have := do_load_out p d n D u K A X w hA hk h
      simpa [dWord, dErr, dWords, dUses, h, hk] using this
    · have := do_store_out p d n D u K A X w hA hk h
      simpa [dWord, dErr, dWords, dUses, h, hk] using this

section
open Go.Deep Go.ChangeShapes Go.WideShapes
variable {H : Type} {enc : TypeId × Value → H} {P : Program} {w : World} {base : Nat} {spare : Nat → Bool} {held : Bool}
/-- A slice of structs of three integers, opened at every index. -/
theorem open_triples {t e : TypeId} {f0 f1 f2 : Field} {fuel : Nat} {cs : List Value} {x : DataW H × List MemPlace} (ht : P.underlying t = some (.slice e)) (he : P.underlying e = some (.struct #[f0, f1, f2]))
    (ce : P.cellsOf e = 3) (o0 : f0.offset = 0) (o1 : f1.offset = 1) (o2 : f2.offset = 2) (c0 : P.cellsOf f0.type = 1) (c1 : P.cellsOf f1.type = 1) (c2 : P.cellsOf f2.type = 1)
    (u0 : P.underlying f0.type = some (.int .i64)) (u1 : P.underlying f1.type = some (.int .i64)) (u2 : P.underlying f2.type = some (.int .i64))
    (h : DataW.trod enc P w base spare held fuel t cs = some x) :
    cs = [.slice none 0 0] ∨
    ∃ (a : Addr) (len cap : Nat) (K A X : Nat → Int), cs = [.slice (some a) len cap] ∧ len ≤ cap ∧ cap ≤ maxLen ∧
      ∀ i, i < len → w.cell? (a.add (i * 3)) = some (.int .i64 (K i)) ∧ w.cell? (a.add (i * 3 + 1)) = some (.int .i64 (A i)) ∧ w.cell? (a.add (i * 3 + 2)) = some (.int .i64 (X i)) ∧
        (Lit.int .i64 (K i)).wf = true ∧ (Lit.int .i64 (A i)).wf = true ∧ (Lit.int .i64 (X i)).wf = true := by
  rcases open_slice ht h with ⟨h0, _⟩ | ⟨a, len, cap, m, n, D, Pl, rfl, hb, hl, hm, hmm, rfl, hx⟩
  · exact Or.inl h0
  right
  have hlm : len ≤ m := by rw [hmm]; split <;> omega
  have each : ∀ i, i < len → ∃ q : Int × Int × Int, w.cell? (a.add (i * 3)) = some (.int .i64 q.1) ∧ w.cell? (a.add (i * 3 + 1)) = some (.int .i64 q.2.1) ∧ w.cell? (a.add (i * 3 + 2)) = some (.int .i64 q.2.2) ∧
        (Lit.int .i64 q.1).wf = true ∧ (Lit.int .i64 q.2.1).wf = true ∧ (Lit.int .i64 q.2.2).wf = true := by
    intro i hi
    obtain ⟨cs', h1, h2⟩ := hx i (by omega)
    rw [ce] at h1
    obtain ⟨_, hlen, hcell⟩ := World.cells?_some h1
    obtain ⟨xs, k, hk, hxy, _, hxl, hf⟩ := DataW.trod_struct he h2
    match xs, hxl, cs', hlen with
    | [y0, y1, y2], _, [v0, v1, v2], _ =>
      have g0 := hf 0 f0 rfl
      have g1 := hf 1 f1 rfl
      have g2 := hf 2 f2 rfl
      simp [o0, o1, o2, c0, c1, c2] at g0 g1 g2
      have e0 := hcell 0 (by omega)
      have e1 := hcell 1 (by omega)
      have e2 := hcell 2 (by omega)
      rw [add_add] at e0 e1 e2
      obtain ⟨z0, hz0, _, w0⟩ := DataW.trod_int u0 g0
      obtain ⟨z1, hz1, _, w1⟩ := DataW.trod_int u1 g1
      obtain ⟨z2, hz2, _, w2⟩ := DataW.trod_int u2 g2
      obtain rfl : v0 = .int .i64 z0 := by simpa using hz0
      obtain rfl : v1 = .int .i64 z1 := by simpa using hz1
      obtain rfl : v2 = .int .i64 z2 := by simpa using hz2
      exact ⟨(z0, z1, z2), by simpa using e0, by simpa using e1, by simpa using e2, w0, w1, w2⟩
  obtain ⟨q, hq⟩ := choose_lt each
  exact ⟨a, len, cap, fun i => (q i).1, fun i => (q i).2.1, fun i => (q i).2.2, rfl, hl, hm, hq⟩
end

set_option maxHeartbeats 2000000 in
theorem rdo_low (p d n : Nat) (D : Nat → Int) (u K A X : Int) (w : World) (hA : At w p d n D u) (_ : 0 ≤ u) (_ : u ≤ 1000000)  (ho : A < 0) :
    Calls Try.prog 11 #[.pointer (some ⟨p, 0, none⟩), .agg #[.int .i64 K, .int .i64 A, .int .i64 X]] w fun e w' =>
      e = .returned (.agg #[.int .i64 (0), .int .i64 1]) ∧ At w' p d n D u ∧ Apart p d w w' := by
  have lp := hA.lp
  have ld := hA.ld
  have hal := ((Below.refl w.heap.size w).alloc (Nat.le_refl _) (.cells #[.int .i64 K, .int .i64 A, .int .i64 X] 35)).alloc (by simp) (.cells #[.int .i64 0, .int .i64 0] 32)
  have hA1 := hA.later hal
  have a0 : ((w.alloc (.cells #[.int .i64 K, .int .i64 A, .int .i64 X] 35)).alloc (.cells #[.int .i64 0, .int .i64 0] 32)).cell? ⟨w.heap.size, 0, none⟩ = some (.int .i64 K) := by simp [go_sem]
  have a1 : ((w.alloc (.cells #[.int .i64 K, .int .i64 A, .int .i64 X] 35)).alloc (.cells #[.int .i64 0, .int .i64 0] 32)).cell? ⟨w.heap.size, 1, none⟩ = some (.int .i64 A) := by simp [go_sem]
  have a2 : ((w.alloc (.cells #[.int .i64 K, .int .i64 A, .int .i64 X] 35)).alloc (.cells #[.int .i64 0, .int .i64 0] 32)).cell? ⟨w.heap.size, 2, none⟩ = some (.int .i64 X) := by simp [go_sem]
  have t0 : ((w.alloc (.cells #[.int .i64 K, .int .i64 A, .int .i64 X] 35)).alloc (.cells #[.int .i64 0, .int .i64 0] 32)).cell? ⟨w.heap.size + 1, 0, none⟩ = some (.int .i64 0) := by simp [go_sem]
  have t1 : ((w.alloc (.cells #[.int .i64 K, .int .i64 A, .int .i64 X] 35)).alloc (.cells #[.int .i64 0, .int .i64 0] 32)).cell? ⟨w.heap.size + 1, 1, none⟩ = some (.int .i64 0) := by simp [go_sem]
  have tz : ∀ j, ((w.alloc (.cells #[.int .i64 K, .int .i64 A, .int .i64 X] 35)).alloc (.cells #[.int .i64 0, .int .i64 0] 32)).frozen? ⟨w.heap.size + 1, j, none⟩ = false := by intro j; simp [go_sem]
  have ts : w.heap.size + 1 < ((w.alloc (.cells #[.int .i64 K, .int .i64 A, .int .i64 X] 35)).alloc (.cells #[.int .i64 0, .int .i64 0] 32)).heap.size := by simp
  have q0 := hA1.words
  have q1 := hA1.uses
  have q2 := hA1.fp
  go_enter Try.func11, Try.ntmps11
  go_wp2
  generalize ((w.alloc (.cells #[.int .i64 K, .int .i64 A, .int .i64 X] 35)).alloc (.cells #[.int .i64 0, .int .i64 0] 32)) = w1 at *
  have z0 := tz 0
  have z1 := tz 1
  have HA : Hid (At w1 p d n D u) := hA1
  have HB : Hid (Below w.heap.size w w1) := hal
  clear hA hA1 hal tz
  go_quiet (fail)
  go_wp2
  refine bodyPost_ret (v := .agg #[.int .i64 0, .int .i64 1]) ?_ rfl ?_
  · simp [results, Try.results11, go_sem, t0, t1]
  · have hlast : Below w.heap.size w1 (((w1.drewN nq).setCell ⟨w.heap.size + 1, 0, none⟩ (.int .i64 0)).setCell ⟨w.heap.size + 1, 1, none⟩ (.int .i64 1)) :=
      (by repeat (first | exact below_drewN _ _ _ | apply Below.drew | refine Below.setCell ?_ (Nat.le_succ _) _ | exact Below.refl _ _ ))
    exact ⟨rfl, HA.out.below hlast lp ld, (Apart.of_below HB.out).then hlast⟩

set_option maxHeartbeats 2000000 in
theorem rdo_high (p d n : Nat) (D : Nat → Int) (u K A X : Int) (w : World) (hA : At w p d n D u) (_ : 0 ≤ u) (_ : u ≤ 1000000)  (h0 : 0 ≤ A) (ho : ¬ A < (n : Int)) :
    Calls Try.prog 11 #[.pointer (some ⟨p, 0, none⟩), .agg #[.int .i64 K, .int .i64 A, .int .i64 X]] w fun e w' =>
      e = .returned (.agg #[.int .i64 (0), .int .i64 1]) ∧ At w' p d n D u ∧ Apart p d w w' := by
  have lp := hA.lp
  have ld := hA.ld
  have hal := ((Below.refl w.heap.size w).alloc (Nat.le_refl _) (.cells #[.int .i64 K, .int .i64 A, .int .i64 X] 35)).alloc (by simp) (.cells #[.int .i64 0, .int .i64 0] 32)
  have hA1 := hA.later hal
  have a0 : ((w.alloc (.cells #[.int .i64 K, .int .i64 A, .int .i64 X] 35)).alloc (.cells #[.int .i64 0, .int .i64 0] 32)).cell? ⟨w.heap.size, 0, none⟩ = some (.int .i64 K) := by simp [go_sem]
  have a1 : ((w.alloc (.cells #[.int .i64 K, .int .i64 A, .int .i64 X] 35)).alloc (.cells #[.int .i64 0, .int .i64 0] 32)).cell? ⟨w.heap.size, 1, none⟩ = some (.int .i64 A) := by simp [go_sem]
  have a2 : ((w.alloc (.cells #[.int .i64 K, .int .i64 A, .int .i64 X] 35)).alloc (.cells #[.int .i64 0, .int .i64 0] 32)).cell? ⟨w.heap.size, 2, none⟩ = some (.int .i64 X) := by simp [go_sem]
  have t0 : ((w.alloc (.cells #[.int .i64 K, .int .i64 A, .int .i64 X] 35)).alloc (.cells #[.int .i64 0, .int .i64 0] 32)).cell? ⟨w.heap.size + 1, 0, none⟩ = some (.int .i64 0) := by simp [go_sem]
  have t1 : ((w.alloc (.cells #[.int .i64 K, .int .i64 A, .int .i64 X] 35)).alloc (.cells #[.int .i64 0, .int .i64 0] 32)).cell? ⟨w.heap.size + 1, 1, none⟩ = some (.int .i64 0) := by simp [go_sem]
  have tz : ∀ j, ((w.alloc (.cells #[.int .i64 K, .int .i64 A, .int .i64 X] 35)).alloc (.cells #[.int .i64 0, .int .i64 0] 32)).frozen? ⟨w.heap.size + 1, j, none⟩ = false := by intro j; simp [go_sem]
  have ts : w.heap.size + 1 < ((w.alloc (.cells #[.int .i64 K, .int .i64 A, .int .i64 X] 35)).alloc (.cells #[.int .i64 0, .int .i64 0] 32)).heap.size := by simp
  have q0 := hA1.words
  have q1 := hA1.uses
  have q2 := hA1.fp
  go_enter Try.func11, Try.ntmps11
  go_wp2
  generalize ((w.alloc (.cells #[.int .i64 K, .int .i64 A, .int .i64 X] 35)).alloc (.cells #[.int .i64 0, .int .i64 0] 32)) = w1 at *
  have z0 := tz 0
  have z1 := tz 1
  have HA : Hid (At w1 p d n D u) := hA1
  have HB : Hid (Below w.heap.size w w1) := hal
  clear hA hA1 hal tz
  go_quiet (fail)
  go_wp2
  refine bodyPost_ret (v := .agg #[.int .i64 0, .int .i64 1]) ?_ rfl ?_
  · simp [results, Try.results11, go_sem, t0, t1]
  · have hlast : Below w.heap.size w1 (((w1.drewN nq).setCell ⟨w.heap.size + 1, 0, none⟩ (.int .i64 0)).setCell ⟨w.heap.size + 1, 1, none⟩ (.int .i64 1)) :=
      (by repeat (first | exact below_drewN _ _ _ | apply Below.drew | refine Below.setCell ?_ (Nat.le_succ _) _ | exact Below.refl _ _ ))
    exact ⟨rfl, HA.out.below hlast lp ld, (Apart.of_below HB.out).then hlast⟩

set_option maxHeartbeats 2000000 in
theorem rdo_load_in (p d n : Nat) (D : Nat → Int) (u K A X : Int) (w : World) (hA : At w p d n D u) (b0 : 0 ≤ u) (b1 : u ≤ 1000000) (hk : K = 0) (h0 : 0 ≤ A) (h1 : A < n) :
    Calls Try.prog 11 #[.pointer (some ⟨p, 0, none⟩), .agg #[.int .i64 K, .int .i64 A, .int .i64 X]] w fun e w' =>
      e = .returned (.agg #[.int .i64 (D A.toNat), .int .i64 0]) ∧ At w' p d n D (u + 1) ∧ Apart p d w w' := by
  subst hk
  have lp := hA.lp
  have ld := hA.ld
  have hal := ((Below.refl w.heap.size w).alloc (Nat.le_refl _) (.cells #[.int .i64 0, .int .i64 A, .int .i64 X] 35)).alloc (by simp) (.cells #[.int .i64 0, .int .i64 0] 32)
  have hA1 := hA.later hal
  have a0 : ((w.alloc (.cells #[.int .i64 0, .int .i64 A, .int .i64 X] 35)).alloc (.cells #[.int .i64 0, .int .i64 0] 32)).cell? ⟨w.heap.size, 0, none⟩ = some (.int .i64 0) := by simp [go_sem]
  have a1 : ((w.alloc (.cells #[.int .i64 0, .int .i64 A, .int .i64 X] 35)).alloc (.cells #[.int .i64 0, .int .i64 0] 32)).cell? ⟨w.heap.size, 1, none⟩ = some (.int .i64 A) := by simp [go_sem]
  have a2 : ((w.alloc (.cells #[.int .i64 0, .int .i64 A, .int .i64 X] 35)).alloc (.cells #[.int .i64 0, .int .i64 0] 32)).cell? ⟨w.heap.size, 2, none⟩ = some (.int .i64 X) := by simp [go_sem]
  have t0 : ((w.alloc (.cells #[.int .i64 0, .int .i64 A, .int .i64 X] 35)).alloc (.cells #[.int .i64 0, .int .i64 0] 32)).cell? ⟨w.heap.size + 1, 0, none⟩ = some (.int .i64 0) := by simp [go_sem]
  have t1 : ((w.alloc (.cells #[.int .i64 0, .int .i64 A, .int .i64 X] 35)).alloc (.cells #[.int .i64 0, .int .i64 0] 32)).cell? ⟨w.heap.size + 1, 1, none⟩ = some (.int .i64 0) := by simp [go_sem]
  have tz : ∀ j, ((w.alloc (.cells #[.int .i64 0, .int .i64 A, .int .i64 X] 35)).alloc (.cells #[.int .i64 0, .int .i64 0] 32)).frozen? ⟨w.heap.size + 1, j, none⟩ = false := by intro j; simp [go_sem]
  have ts : w.heap.size + 1 < ((w.alloc (.cells #[.int .i64 0, .int .i64 A, .int .i64 X] 35)).alloc (.cells #[.int .i64 0, .int .i64 0] 32)).heap.size := by simp
  have q0 := hA1.words
  have q1 := hA1.uses
  have q2 := hA1.fp
  go_enter Try.func11, Try.ntmps11
  go_wp2
  generalize ((w.alloc (.cells #[.int .i64 0, .int .i64 A, .int .i64 X] 35)).alloc (.cells #[.int .i64 0, .int .i64 0] 32)) = w1 at *
  have z0 := tz 0
  have z1 := tz 1
  have q3 := hA1.data A.toNat (by omega)
  have q4 := hA1.fd A.toNat (by omega)
  have HA : Hid (At w1 p d n D u) := hA1
  have HB : Hid (Below w.heap.size w w1) := hal
  clear hA hA1 hal tz
  go_quiet (fail)
  go_wp2
  have hq1 : Apart p d w1 ((w1.drewN nq).setCell ⟨p, 1, none⟩ (.int .i64 (u + 1))) := (Apart.of_below (Like.below (show Like w1 (w1.drewN nq) from ⟨rfl, rfl, rfl, rfl⟩) _)).trans (Apart.setP p d 1 _ _)
  have hA2 : At ((w1.drewN nq).setCell ⟨p, 1, none⟩ (.int .i64 (u + 1))) p d n D (u + 1) := (HA.out.like (show Like w1 (w1.drewN nq) from ⟨rfl, rfl, rfl, rfl⟩)).count (u + 1)
  replace a0 := hq1.cell a0 (by simp; omega) (by simp; omega)
  replace a1 := hq1.cell a1 (by simp; omega) (by simp; omega)
  replace a2 := hq1.cell a2 (by simp; omega) (by simp; omega)
  replace t0 := hq1.cell t0 (by simp; omega) (by simp; omega)
  replace t1 := hq1.cell t1 (by simp; omega) (by simp; omega)
  replace z0 := (hq1.frozen ts (by simp; omega) (by simp; omega)).trans z0
  replace z1 := (hq1.frozen ts (by simp; omega) (by simp; omega)).trans z1
  have hq2 := (Apart.of_below (p := p) (d := d) HB.out).trans hq1
  replace q0 := hA2.words
  replace q3 := hA2.data A.toNat (by omega)
  replace q4 := hA2.fd A.toNat (by omega)
  have HA2 : Hid (At ((w1.drewN nq).setCell ⟨p, 1, none⟩ (.int .i64 (u + 1))) p d n D (u + 1)) := hA2
  have HQ2 : Hid (Apart p d w ((w1.drewN nq).setCell ⟨p, 1, none⟩ (.int .i64 (u + 1)))) := hq2
  have hne : d ≠ p := Ne.symm HA.out.ne
  have hne1 : ¬ d = w.heap.size + 1 := by omega
  have hne2 : ¬ w.heap.size + 1 = d := by omega
  clear q1 q2 HA HB hA2 hq1 hq2 ts
  generalize ((w1.drewN nq).setCell ⟨p, 1, none⟩ (.int .i64 (u + 1))) = w2 at *
  go_region
  all_goals go_wp2
  all_goals refine bodyPost_ret (v := .agg #[.int .i64 (D A.toNat), .int .i64 0]) ?_ rfl ?_
  all_goals first
    | (simp [results, Try.results11, go_sem, t0, t1]; done)
    | exact ⟨rfl, (HA2.out).below (by repeat (first | exact below_drewN _ _ _ | apply Below.drew | refine Below.setCell ?_ (Nat.le_succ _) _ | exact Below.refl _ _ )) lp ld, (HQ2.out).then (by repeat (first | exact below_drewN _ _ _ | apply Below.drew | refine Below.setCell ?_ (Nat.le_succ _) _ | exact Below.refl _ _ ))⟩

set_option maxHeartbeats 2000000 in
theorem rdo_store_in (p d n : Nat) (D : Nat → Int) (u K A X : Int) (w : World) (hA : At w p d n D u) (b0 : 0 ≤ u) (b1 : u ≤ 1000000) (hk : ¬ K = 0) (h0 : 0 ≤ A) (h1 : A < n) :
    Calls Try.prog 11 #[.pointer (some ⟨p, 0, none⟩), .agg #[.int .i64 K, .int .i64 A, .int .i64 X]] w fun e w' =>
      e = .returned (.agg #[.int .i64 (0), .int .i64 0]) ∧ At w' p d n (fun k => if k = A.toNat then X else D k) (u + 1) ∧ Apart p d w w' := by
  have lp := hA.lp
  have ld := hA.ld
  have hal := ((Below.refl w.heap.size w).alloc (Nat.le_refl _) (.cells #[.int .i64 K, .int .i64 A, .int .i64 X] 35)).alloc (by simp) (.cells #[.int .i64 0, .int .i64 0] 32)
  have hA1 := hA.later hal
  have a0 : ((w.alloc (.cells #[.int .i64 K, .int .i64 A, .int .i64 X] 35)).alloc (.cells #[.int .i64 0, .int .i64 0] 32)).cell? ⟨w.heap.size, 0, none⟩ = some (.int .i64 K) := by simp [go_sem]
  have a1 : ((w.alloc (.cells #[.int .i64 K, .int .i64 A, .int .i64 X] 35)).alloc (.cells #[.int .i64 0, .int .i64 0] 32)).cell? ⟨w.heap.size, 1, none⟩ = some (.int .i64 A) := by simp [go_sem]
  have a2 : ((w.alloc (.cells #[.int .i64 K, .int .i64 A, .int .i64 X] 35)).alloc (.cells #[.int .i64 0, .int .i64 0] 32)).cell? ⟨w.heap.size, 2, none⟩ = some (.int .i64 X) := by simp [go_sem]
  have t0 : ((w.alloc (.cells #[.int .i64 K, .int .i64 A, .int .i64 X] 35)).alloc (.cells #[.int .i64 0, .int .i64 0] 32)).cell? ⟨w.heap.size + 1, 0, none⟩ = some (.int .i64 0) := by simp [go_sem]
  have t1 : ((w.alloc (.cells #[.int .i64 K, .int .i64 A, .int .i64 X] 35)).alloc (.cells #[.int .i64 0, .int .i64 0] 32)).cell? ⟨w.heap.size + 1, 1, none⟩ = some (.int .i64 0) := by simp [go_sem]
  have tz : ∀ j, ((w.alloc (.cells #[.int .i64 K, .int .i64 A, .int .i64 X] 35)).alloc (.cells #[.int .i64 0, .int .i64 0] 32)).frozen? ⟨w.heap.size + 1, j, none⟩ = false := by intro j; simp [go_sem]
  have ts : w.heap.size + 1 < ((w.alloc (.cells #[.int .i64 K, .int .i64 A, .int .i64 X] 35)).alloc (.cells #[.int .i64 0, .int .i64 0] 32)).heap.size := by simp
  have q0 := hA1.words
  have q1 := hA1.uses
  have q2 := hA1.fp
  go_enter Try.func11, Try.ntmps11
  go_wp2
  generalize ((w.alloc (.cells #[.int .i64 K, .int .i64 A, .int .i64 X] 35)).alloc (.cells #[.int .i64 0, .int .i64 0] 32)) = w1 at *
  have z0 := tz 0
  have z1 := tz 1
  have q3 := hA1.data A.toNat (by omega)
  have q4 := hA1.fd A.toNat (by omega)
  have HA : Hid (At w1 p d n D u) := hA1
  have HB : Hid (Below w.heap.size w w1) := hal
  clear hA hA1 hal tz
  go_quiet (fail)
  go_wp2
  have hq1 : Apart p d w1 ((w1.drewN nq).setCell ⟨p, 1, none⟩ (.int .i64 (u + 1))) := (Apart.of_below (Like.below (show Like w1 (w1.drewN nq) from ⟨rfl, rfl, rfl, rfl⟩) _)).trans (Apart.setP p d 1 _ _)
  have hA2 : At ((w1.drewN nq).setCell ⟨p, 1, none⟩ (.int .i64 (u + 1))) p d n D (u + 1) := (HA.out.like (show Like w1 (w1.drewN nq) from ⟨rfl, rfl, rfl, rfl⟩)).count (u + 1)
  replace a0 := hq1.cell a0 (by simp; omega) (by simp; omega)
  replace a1 := hq1.cell a1 (by simp; omega) (by simp; omega)
  replace a2 := hq1.cell a2 (by simp; omega) (by simp; omega)
  replace t0 := hq1.cell t0 (by simp; omega) (by simp; omega)
  replace t1 := hq1.cell t1 (by simp; omega) (by simp; omega)
  replace z0 := (hq1.frozen ts (by simp; omega) (by simp; omega)).trans z0
  replace z1 := (hq1.frozen ts (by simp; omega) (by simp; omega)).trans z1
  have hq2 := (Apart.of_below (p := p) (d := d) HB.out).trans hq1
  replace q0 := hA2.words
  replace q3 := hA2.data A.toNat (by omega)
  replace q4 := hA2.fd A.toNat (by omega)
  have HA2 : Hid (At ((w1.drewN nq).setCell ⟨p, 1, none⟩ (.int .i64 (u + 1))) p d n D (u + 1)) := hA2
  have HQ2 : Hid (Apart p d w ((w1.drewN nq).setCell ⟨p, 1, none⟩ (.int .i64 (u + 1)))) := hq2
  have hne : d ≠ p := Ne.symm HA.out.ne
  have hne1 : ¬ d = w.heap.size + 1 := by omega
  have hne2 : ¬ w.heap.size + 1 = d := by omega
  clear q1 q2 HA HB hA2 hq1 hq2 ts
  generalize ((w1.drewN nq).setCell ⟨p, 1, none⟩ (.int .i64 (u + 1))) = w2 at *
  go_region
  all_goals go_wp2
  all_goals refine bodyPost_ret (v := .agg #[.int .i64 0, .int .i64 0]) ?_ rfl ?_
  all_goals first
    | (simp [results, Try.results11, go_sem, t0, t1]; done)
    | exact ⟨rfl, (HA2.out.put A.toNat X (by omega)).below (by repeat (first | exact below_drewN _ _ _ | apply Below.drew | refine Below.setCell ?_ (Nat.le_succ _) _ | exact Below.refl _ _ )) lp ld,
        ((HQ2.out).trans (Apart.setD p d A.toNat (.int .i64 X) w2)).then (by repeat (first | exact below_drewN _ _ _ | apply Below.drew | refine Below.setCell ?_ (Nat.le_succ _) _ | exact Below.refl _ _ ))⟩

theorem rdo_any (p d n : Nat) (D : Nat → Int) (u K A X : Int) (w : World) (hA : At w p d n D u) (b0 : 0 ≤ u) (b1 : u ≤ 1000000) :
    Calls Try.prog 11 #[.pointer (some ⟨p, 0, none⟩), .agg #[.int .i64 K, .int .i64 A, .int .i64 X]] w fun e w' =>
      e = .returned (.agg #[.int .i64 (dWord K A n D), .int .i64 (dErr A n)]) ∧ At w' p d n (dWords K A X n D) (dUses A n u) ∧ Apart p d w w' := by
  have hu : wrap64 (u + 1) = u + 1 := by unfold wrap64; omega
  by_cases h : inr A n
  · by_cases hk : K = 0
    · have := rdo_load_in p d n D u K A X w hA b0 b1 hk h.1 h.2
      simpa [dWord, dErr, dWords, dUses, h, hk, hu] using this
    · have := rdo_store_in p d n D u K A X w hA b0 b1 hk h.1 h.2
      simpa [dWord, dErr, dWords, dUses, h, hk, hu] using this
  · have key : Calls Try.prog 11 #[.pointer (some ⟨p, 0, none⟩), .agg #[.int .i64 K, .int .i64 A, .int .i64 X]] w fun e w' =>
      e = .returned (.agg #[.int .i64 0, .int .i64 1]) ∧ At w' p d n D u ∧ Apart p d w w' := by
      by_cases h0 : A < 0
      · exact rdo_low p d n D u K A X w hA b0 b1 h0
      · exact rdo_high p d n D u K A X w hA b0 b1 (by omega) (fun h1 => h ⟨by omega, h1⟩)
    simpa [dWord, dErr, dWords, dUses, h] using key

set_option maxHeartbeats 1000000 in
theorem rnew_in (n : Int) (h0 : 1 ≤ n) (h1 : n ≤ 65536) (w : World) :
    Calls Try.prog 9 #[.int .i64 n] w fun e w' => ∃ p d, e = .returned (.tuple #[.pointer (some ⟨p, 0, none⟩), .int .i64 0]) ∧ At w' p d n.toNat (fun _ => 0) 0 ∧ Below w.heap.size w w' ∧ w.heap.size ≤ p ∧ w.heap.size ≤ d := by
  obtain ⟨i0, hi, hz0, hz1, hz2⟩ := info_parts Try.info_i64
  have hmk := run_make (P := Try.prog) w 38 2 i0 (.int .i64 0) Try.underlying38 hi hz0 .i64 .i64 n n (by omega) (Int.le_refl _) (by rw [hz2]; omega) (by omega)
  have g1 : ¬ n < 1 := by omega
  have g2 : ¬ n > 65536 := by omega
  go_enter Try.func9, Try.ntmps9
  go_wp2
  have e1 : (w.alloc (.cells (madeCells #[.int .i64 0] n.toNat) 2)).heap.size = w.heap.size + 1 := by simp
  have hb : Below w.heap.size w ((w.alloc (.cells (madeCells #[.int .i64 0] n.toNat) 2)).alloc (.cells #[.slice (some ⟨w.heap.size, 0, none⟩) n.toNat n.toNat, .int .i64 0] 40)) :=
    ((Below.refl _ _).alloc (Nat.le_refl _) _).alloc (by simp) _
  have hA : At ((w.alloc (.cells (madeCells #[.int .i64 0] n.toNat) 2)).alloc (.cells #[.slice (some ⟨w.heap.size, 0, none⟩) n.toNat n.toNat, .int .i64 0] 40)) (w.heap.size + 1) w.heap.size n.toNat (fun _ => 0) 0 := by
    refine ⟨by simp [go_sem], by simp [go_sem], fun k hk => ?_, by simp [go_sem], fun k hk => by simp [go_sem], by simp, by simp, by simp; omega⟩
    rw [made_int]
    simp [go_sem, hk]
  generalize ((w.alloc (.cells (madeCells #[.int .i64 0] n.toNat) 2)).alloc (.cells #[.slice (some ⟨w.heap.size, 0, none⟩) n.toNat n.toNat, .int .i64 0] 40)) = w9 at *
  go_ret2
  exact ⟨_, rfl, _, hA, hb, by omega, Nat.le_refl _⟩

theorem rnew_out (n : Int) (ho : ¬ (1 ≤ n ∧ n ≤ 65536)) (w : World) :
    Calls Try.prog 9 #[.int .i64 n] w fun e w' => e = .returned (.tuple #[.pointer none, .int .i64 1]) ∧ w' = w := by
  by_cases g1 : n < 1
  · go_enter Try.func9, Try.ntmps9
    go_wp2
    go_ret2
    exact ⟨rfl, rfl⟩
  · have g2 : n > 65536 := by omega
    clear ho
    go_enter Try.func9, Try.ntmps9
    go_wp2
    go_ret2
    exact ⟨rfl, rfl⟩

set_option maxHeartbeats 1000000 in
theorem rwords_same (c cap d n : Nat) (D : Nat → Int) (w : World) (hn : n ≤ 65536) (h1 : ∀ k, k < n → w.cell? ⟨c, k, none⟩ = some (.int .i64 (D k))) (h2 : ∀ k, k < n → w.cell? ⟨d, k, none⟩ = some (.int .i64 (D k))) :
    Calls Try.prog 13 #[.slice (some ⟨c, 0, none⟩) n cap, .slice (some ⟨d, 0, none⟩) n n] w fun e w' => e = .returned (.bool true) ∧ Like w w' := by
  have H1 : Hid (∀ k, k < n → w.cell? ⟨c, k, none⟩ = some (.int .i64 (D k))) := h1
  have H2 : Hid (∀ k, k < n → w.cell? ⟨d, k, none⟩ = some (.int .i64 (D k))) := h2
  clear h1 h2
  go_enter Try.func13, Try.ntmps13
  go_wp2
  go_loopw [5] (fun i wr => ∃ k : Nat, k ≤ n ∧ i = .int .i64 k ∧ Like w wr) (fun i _ => n - (intOf i).toNat)
  case atStart => exact ⟨0, Nat.zero_le _, rfl, Like.refl _⟩
  case round =>
    obtain ⟨k, hk, rfl, hL⟩ := hrel
    by_cases hlt : k < n
    · have g1 : wr.cell? ⟨c, k, none⟩ = some (.int .i64 (D k)) := (hL.cell _).trans (H1.out k hlt)
      have g2 : wr.cell? ⟨d, k, none⟩ = some (.int .i64 (D k)) := (hL.cell _).trans (H2.out k hlt)
      go_wp2
      go_quiet (fail)
      go_wp2
      go_roundw
      case rel => exact ⟨k + 1, by omega, by go_num, hL.trans ⟨rfl, rfl, rfl, rfl⟩⟩
      case measure => simp [intOf]; omega
    · obtain rfl : k = n := by omega
      go_wp2
      go_ret
      exact ⟨rfl, hL⟩

end Go.Proofs.Ytfkcmadnebeijaa
